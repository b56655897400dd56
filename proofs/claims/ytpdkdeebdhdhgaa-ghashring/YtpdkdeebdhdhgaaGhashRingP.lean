/- Products don't hang on the order of their parts, and go over sums; 1 and 0 are what they are elsewhere. No condition. -/
import Derived.Test.YtpdkdeebdhdhgaaGhashAwake
namespace Go.Proofs.Ytpdkdeebdhdhgaa
open Go.ChangeShapes Go.WideShapes Go.ChangeAt Go.RowKit

set_option maxRecDepth 100000 in
set_option maxHeartbeats 4000000 in
theorem ghashRing_walk (u : Value) (a : List B8) (u2 : Value) (b : List B8) (u3 : Value) (c : List B8) (w : World) (ha : a.length = 16 ∧ u = .agg (u8s (nts a)).toArray) (hb : b.length = 16 ∧ u2 = .agg (u8s (nts b)).toArray) (hc : c.length = 16 ∧ u3 = .agg (u8s (nts c)).toArray) :
    Calls Try.prog 4 #[u, u2, u3] w fun e w' => e = .returned (.bool true) ∧ Below w.heap.size w w' := by
  obtain ⟨ha, rfl⟩ := ha
  obtain ⟨hb, rfl⟩ := hb
  obtain ⟨hc, rfl⟩ := hc
  obtain ⟨A, hA⟩ : ∃ A, A = (u8s (nts a)).toArray := ⟨_, rfl⟩
  obtain ⟨B, hB⟩ : ∃ B, B = (u8s (nts b)).toArray := ⟨_, rfl⟩
  obtain ⟨C, hC⟩ : ∃ B, B = (u8s (nts c)).toArray := ⟨_, rfl⟩
  obtain ⟨Z, hZ⟩ : ∃ Z, Z = (u8s (nts gzero)).toArray := ⟨_, rfl⟩
  obtain ⟨O, hO⟩ : ∃ O, O = (u8s (nts gone)).toArray := ⟨_, rfl⟩
  obtain ⟨AB, hAB⟩ : ∃ P, P = (u8s (nts (gtimes a b))).toArray := ⟨_, rfl⟩
  obtain ⟨AC, hAC⟩ : ∃ P, P = (u8s (nts (gtimes a c))).toArray := ⟨_, rfl⟩
  obtain ⟨BC, hBC⟩ : ∃ P, P = (u8s (nts (gtimes b c))).toArray := ⟨_, rfl⟩
  obtain ⟨ABC, hABC⟩ : ∃ P, P = (u8s (nts (gtimes a (gtimes b c)))).toArray := ⟨_, rfl⟩
  obtain ⟨S, hS⟩ : ∃ P, P = (u8s (nts (gadd b c))).toArray := ⟨_, rfl⟩
  obtain ⟨D, hD⟩ : ∃ P, P = (u8s (nts (gtimes a (gadd b c)))).toArray := ⟨_, rfl⟩
  rw [← hA, ← hB, ← hC]
  have HA := Hid.mk' hA
  have HB := Hid.mk' hB
  have HC := Hid.mk' hC
  have HZ := Hid.mk' hZ
  have HO := Hid.mk' hO
  obtain ⟨g, hg⟩ : ∃ g, g = w.heap.size := ⟨_, rfl⟩
  obtain ⟨wz, hwz⟩ : ∃ wz, wz = ((w.alloc (.cells A 22)).alloc (.cells B 22)).alloc (.cells C 22) := ⟨_, rfl⟩
  have al : ∀ (x : World) (o : Obj), But (fun _ => False) x (x.alloc o) := fun x o => (But.refl _ x).alloc o
  have hak : Blk wz g 22 (u8s (nts a)) := by rw [hwz, hA]; exact ((Blk.new hg.symm).but (al _ _) (fun h => h)).but (al _ _) (fun h => h)
  have hbk : Blk wz (g + 1) 22 (u8s (nts b)) := by rw [hwz, hB]; exact (Blk.new (by simp [hg])).but (al _ _) (fun h => h)
  have hck : Blk wz (g + 1 + 1) 22 (u8s (nts c)) := by rw [hwz, hC]; exact Blk.new (by simp [hg])
  have HZT := Hid.mk' (show But (fun _ => False) w wz by rw [hwz]; exact (((But.refl _ w).alloc _).alloc _).alloc _)
  have HZA : Hid (∀ w', But (fun _ => False) wz w' → Blk w' g 22 (u8s (nts a))) := fun w' hw' => hak.but hw' (fun h => h)
  have HZB : Hid (∀ w', But (fun _ => False) wz w' → Blk w' (g + 1) 22 (u8s (nts b))) := fun w' hw' => hbk.but hw' (fun h => h)
  have HZC : Hid (∀ w', But (fun _ => False) wz w' → Blk w' (g + 1 + 1) 22 (u8s (nts c))) := fun w' hw' => hck.but hw' (fun h => h)
  have HAN : Hid ((nts a).length = 16) := by show _ = _; rw [nts_len]; exact ha
  have HBN : Hid ((nts b).length = 16) := by show _ = _; rw [nts_len]; exact hb
  have HCN : Hid ((nts c).length = 16) := by show _ = _; rw [nts_len]; exact hc
  have H1 : Hid (∀ w', But (fun _ => False) wz w' → Calls Try.prog 9 #[.agg A, .agg B] w' fun e w'' => e = .returned (.agg AB) ∧ But (fun _ => False) wz w'') := by
    intro w' hw'
    rw [hA, hB, hAB]
    exact (ptimes_any ha hb).mono (fun e w'' h => ⟨h.1, hw'.trans h.2⟩)
  have H2 : Hid (∀ w', But (fun _ => False) wz w' → Calls Try.prog 9 #[.agg B, .agg A] w' fun e w'' => e = .returned (.agg AB) ∧ But (fun _ => False) wz w'') := by
    intro w' hw'
    rw [hA, hB, hAB, gtimes_comm a b]
    exact (ptimes_any hb ha).mono (fun e w'' h => ⟨h.1, hw'.trans h.2⟩)
  have H3 : Hid (∀ w', But (fun _ => False) wz w' → Calls Try.prog 9 #[.agg B, .agg C] w' fun e w'' => e = .returned (.agg BC) ∧ But (fun _ => False) wz w'') := by
    intro w' hw'
    rw [hB, hC, hBC]
    exact (ptimes_any hb hc).mono (fun e w'' h => ⟨h.1, hw'.trans h.2⟩)
  have H4 : Hid (∀ w', But (fun _ => False) wz w' → Calls Try.prog 9 #[.agg A, .agg BC] w' fun e w'' => e = .returned (.agg ABC) ∧ But (fun _ => False) wz w'') := by
    intro w' hw'
    rw [hA, hBC, hABC]
    exact (ptimes_any ha (gtimes_len b c)).mono (fun e w'' h => ⟨h.1, hw'.trans h.2⟩)
  have H5 : Hid (∀ w', But (fun _ => False) wz w' → Calls Try.prog 9 #[.agg AB, .agg C] w' fun e w'' => e = .returned (.agg ABC) ∧ But (fun _ => False) wz w'') := by
    intro w' hw'
    rw [hAB, hC, hABC, gtimes_assoc a b c]
    exact (ptimes_any (gtimes_len a b) hc).mono (fun e w'' h => ⟨h.1, hw'.trans h.2⟩)
  have H6 : Hid (∀ w', But (fun _ => False) wz w' → Calls Try.prog 12 #[.agg B, .agg C] w' fun e w'' => e = .returned (.agg S) ∧ But (fun _ => False) wz w'') := by
    intro w' hw'
    rw [hB, hC, hS]
    exact (rgadd_any hb hc).mono (fun e w'' h => ⟨h.1, hw'.trans h.2⟩)
  have H7 : Hid (∀ w', But (fun _ => False) wz w' → Calls Try.prog 9 #[.agg A, .agg S] w' fun e w'' => e = .returned (.agg D) ∧ But (fun _ => False) wz w'') := by
    intro w' hw'
    rw [hA, hS, hD]
    exact (ptimes_any ha (gadd_len b c)).mono (fun e w'' h => ⟨h.1, hw'.trans h.2⟩)
  have H8 : Hid (∀ w', But (fun _ => False) wz w' → Calls Try.prog 9 #[.agg A, .agg C] w' fun e w'' => e = .returned (.agg AC) ∧ But (fun _ => False) wz w'') := by
    intro w' hw'
    rw [hA, hC, hAC]
    exact (ptimes_any ha hc).mono (fun e w'' h => ⟨h.1, hw'.trans h.2⟩)
  have H9 : Hid (∀ w', But (fun _ => False) wz w' → Calls Try.prog 12 #[.agg AB, .agg AC] w' fun e w'' => e = .returned (.agg D) ∧ But (fun _ => False) wz w'') := by
    intro w' hw'
    rw [hAB, hAC, hD, gtimes_gadd a b c]
    exact (rgadd_any (gtimes_len a b) (gtimes_len a c)).mono (fun e w'' h => ⟨h.1, hw'.trans h.2⟩)
  have H10 : Hid (∀ w', But (fun _ => False) wz w' → Calls Try.prog 9 #[.agg A, .agg O] w' fun e w'' => e = .returned (.agg A) ∧ But (fun _ => False) wz w'') := by
    intro w' hw'
    rw [hO, hA]
    exact (ptimes_any ha gone_len).mono (fun e w'' h => ⟨by rw [h.1, gtimes_one ha], hw'.trans h.2⟩)
  have E1 : Hid (∀ w', (Op.equalIn 10000 22 (.agg AB) (.agg AB)).run Try.prog w' = .ok true w') := by
    intro w'
    rw [hAB, equal16 _ _ (gtimes_len a b) (gtimes_len a b) w']; simp
  have E2 : Hid (∀ w', (Op.equalIn 10000 22 (.agg ABC) (.agg ABC)).run Try.prog w' = .ok true w') := by
    intro w'
    rw [hABC, equal16 _ _ (gtimes_len _ _) (gtimes_len _ _) w']; simp
  have E3 : Hid (∀ w', (Op.equalIn 10000 22 (.agg D) (.agg D)).run Try.prog w' = .ok true w') := by
    intro w'
    rw [hD, equal16 _ _ (gtimes_len _ _) (gtimes_len _ _) w']; simp
  have E4 : Hid (∀ w', (Op.equalIn 10000 22 (.agg A) (.agg A)).run Try.prog w' = .ok true w') := by
    intro w'
    rw [hA, equal16 _ _ ha ha w']; simp
  have E5 : Hid (∀ w', (Op.equalIn 10000 22 (.agg AB) (.agg Z)).run Try.prog w' = .ok (decide (gtimes a b = gzero)) w') := by
    intro w'
    rw [hAB, hZ]; exact equal16 _ _ (gtimes_len a b) gzero_len w'
  have E6 : Hid (∀ w', (Op.equalIn 10000 22 (.agg A) (.agg Z)).run Try.prog w' = .ok (decide (a = gzero)) w') := by
    intro w'
    rw [hA, hZ]; exact equal16 _ _ ha gzero_len w'
  have E7 : Hid (∀ w', (Op.equalIn 10000 22 (.agg B) (.agg Z)).run Try.prog w' = .ok (decide (b = gzero)) w') := by
    intro w'
    rw [hB, hZ]; exact equal16 _ _ hb gzero_len w'
  have HZE : Hid (decide (gtimes a b = gzero) = (decide (a = gzero) || decide (b = gzero))) := by
    show _ = _
    rw [← Bool.decide_or]
    congr 1
    exact gtimes_zero ha hb
  rw [HZE.out] at E5
  have hz : ∀ w : World, (zeroValue 22).run Try.prog w = .ok (.agg Z) w := fun w => by rw [hZ]; exact zeroG w
  obtain ⟨za, hza⟩ : ∃ z, z = decide (a = gzero) := ⟨_, rfl⟩
  obtain ⟨zb, hzb⟩ : ∃ z, z = decide (b = gzero) := ⟨_, rfl⟩
  rw [← hza] at E5 E6
  rw [← hzb] at E5 E7
  have HG := Hid.mk' hg
  have HWZ := Hid.mk' hwz
  clear ha hb hc hA hB hC hZ hO hAB hAC hBC hABC hS hD hg hwz hak hbk hck al HZE hza hzb
  go_enter Try.func4, Try.ntmps4
  go_upto_region 1 with fail
  rw [← HWZ.out, ← HG.out]
  refine region_same (l := [_, _, _, _, _, _, _, _, _, _, _, _, _, _, _, _, _, _, _, _]) (fun w' => But (fun _ => False) wz w') (by kernel_rfl) (by kernel_rfl) ((But.refl _ _).drew) ?_
  refine guard_val (.agg A) rfl (fun w' hw' => by rw [HA.out]; exact run_load_u8s Try.underlying22 i16g (HZA.out w' hw') HAN.out rfl rfl) ?_
  intro K hK; go_simp; refine hK _ ?_; clear hK K
  refine guard_val (.agg B) rfl (fun w' hw' => by rw [HB.out]; exact run_load_u8s Try.underlying22 i16g (HZB.out w' hw') HBN.out rfl rfl) ?_
  intro K hK; go_simp; refine hK _ ?_; clear hK K
  refine guard_call (.agg AB) 9 #[.agg A, .agg B] rfl (fun w' _ => by kernel_rfl) (fun w' hw' => H1.out w' hw') ?_
  intro K hK; go_simp; refine hK _ ?_; clear hK K
  refine guard_val (.agg B) rfl (fun w' hw' => by rw [HB.out]; exact run_load_u8s Try.underlying22 i16g (HZB.out w' hw') HBN.out rfl rfl) ?_
  intro K hK; go_simp; refine hK _ ?_; clear hK K
  refine guard_val (.agg A) rfl (fun w' hw' => by rw [HA.out]; exact run_load_u8s Try.underlying22 i16g (HZA.out w' hw') HAN.out rfl rfl) ?_
  intro K hK; go_simp; refine hK _ ?_; clear hK K
  refine guard_call (.agg AB) 9 #[.agg B, .agg A] rfl (fun w' _ => by kernel_rfl) (fun w' hw' => H2.out w' hw') ?_
  intro K hK; go_simp; refine hK _ ?_; clear hK K
  refine guard_val (.bool false) rfl (fun w' hw' => by have h := E1.out w'; go_simp) ?_
  intro K hK; go_simp; refine hK _ ?_; clear hK K
  refine guard_val _ rfl (fun w' _ => rfl) ?_
  intro K hK; go_simp; refine hK _ ?_; clear hK K
  refine guard_val (.agg A) rfl (fun w' hw' => by rw [HA.out]; exact run_load_u8s Try.underlying22 i16g (HZA.out w' hw') HAN.out rfl rfl) ?_
  intro K hK; go_simp; refine hK _ ?_; clear hK K
  refine guard_val (.agg B) rfl (fun w' hw' => by rw [HB.out]; exact run_load_u8s Try.underlying22 i16g (HZB.out w' hw') HBN.out rfl rfl) ?_
  intro K hK; go_simp; refine hK _ ?_; clear hK K
  refine guard_val (.agg C) rfl (fun w' hw' => by rw [HC.out]; exact run_load_u8s Try.underlying22 i16g (HZC.out w' hw') HCN.out rfl rfl) ?_
  intro K hK; go_simp; refine hK _ ?_; clear hK K
  refine guard_call (.agg BC) 9 #[.agg B, .agg C] rfl (fun w' _ => by kernel_rfl) (fun w' hw' => H3.out w' hw') ?_
  intro K hK; go_simp; refine hK _ ?_; clear hK K
  refine guard_call (.agg ABC) 9 #[.agg A, .agg BC] rfl (fun w' _ => by kernel_rfl) (fun w' hw' => H4.out w' hw') ?_
  intro K hK; go_simp; refine hK _ ?_; clear hK K
  refine guard_val (.agg A) rfl (fun w' hw' => by rw [HA.out]; exact run_load_u8s Try.underlying22 i16g (HZA.out w' hw') HAN.out rfl rfl) ?_
  intro K hK; go_simp; refine hK _ ?_; clear hK K
  refine guard_val (.agg B) rfl (fun w' hw' => by rw [HB.out]; exact run_load_u8s Try.underlying22 i16g (HZB.out w' hw') HBN.out rfl rfl) ?_
  intro K hK; go_simp; refine hK _ ?_; clear hK K
  refine guard_call (.agg AB) 9 #[.agg A, .agg B] rfl (fun w' _ => by kernel_rfl) (fun w' hw' => H1.out w' hw') ?_
  intro K hK; go_simp; refine hK _ ?_; clear hK K
  refine guard_val (.agg C) rfl (fun w' hw' => by rw [HC.out]; exact run_load_u8s Try.underlying22 i16g (HZC.out w' hw') HCN.out rfl rfl) ?_
  intro K hK; go_simp; refine hK _ ?_; clear hK K
  refine guard_call (.agg ABC) 9 #[.agg AB, .agg C] rfl (fun w' _ => by kernel_rfl) (fun w' hw' => H5.out w' hw') ?_
  intro K hK; go_simp; refine hK _ ?_; clear hK K
  refine guard_val (.bool false) rfl (fun w' hw' => by have h := E2.out w'; go_simp) ?_
  intro K hK; go_simp; refine hK _ ?_; clear hK K
  refine guard_val _ rfl (fun w' _ => rfl) ?_
  intro K hK; go_simp; refine hK _ ?_; clear hK K
  refine wpQuiet_nil ?_
  intro w4 hw4
  go_upto_region 3 with fail
  refine region_same (l := [_, _, _, _, _, _, _, _, _, _, _, _, _]) (fun w' => But (fun _ => False) wz w') (by kernel_rfl) (by kernel_rfl) hw4.drew ?_
  refine guard_val (.agg A) rfl (fun w' hw' => by rw [HA.out]; exact run_load_u8s Try.underlying22 i16g (HZA.out w' hw') HAN.out rfl rfl) ?_
  intro K hK; go_simp; refine hK _ ?_; clear hK K
  refine guard_val (.agg B) rfl (fun w' hw' => by rw [HB.out]; exact run_load_u8s Try.underlying22 i16g (HZB.out w' hw') HBN.out rfl rfl) ?_
  intro K hK; go_simp; refine hK _ ?_; clear hK K
  refine guard_val (.agg C) rfl (fun w' hw' => by rw [HC.out]; exact run_load_u8s Try.underlying22 i16g (HZC.out w' hw') HCN.out rfl rfl) ?_
  intro K hK; go_simp; refine hK _ ?_; clear hK K
  refine guard_call (.agg S) 12 #[.agg B, .agg C] rfl (fun w' _ => by kernel_rfl) (fun w' hw' => H6.out w' hw') ?_
  intro K hK; go_simp; refine hK _ ?_; clear hK K
  refine guard_call (.agg D) 9 #[.agg A, .agg S] rfl (fun w' _ => by kernel_rfl) (fun w' hw' => H7.out w' hw') ?_
  intro K hK; go_simp; refine hK _ ?_; clear hK K
  refine guard_val (.agg A) rfl (fun w' hw' => by rw [HA.out]; exact run_load_u8s Try.underlying22 i16g (HZA.out w' hw') HAN.out rfl rfl) ?_
  intro K hK; go_simp; refine hK _ ?_; clear hK K
  refine guard_val (.agg B) rfl (fun w' hw' => by rw [HB.out]; exact run_load_u8s Try.underlying22 i16g (HZB.out w' hw') HBN.out rfl rfl) ?_
  intro K hK; go_simp; refine hK _ ?_; clear hK K
  refine guard_call (.agg AB) 9 #[.agg A, .agg B] rfl (fun w' _ => by kernel_rfl) (fun w' hw' => H1.out w' hw') ?_
  intro K hK; go_simp; refine hK _ ?_; clear hK K
  refine guard_val (.agg A) rfl (fun w' hw' => by rw [HA.out]; exact run_load_u8s Try.underlying22 i16g (HZA.out w' hw') HAN.out rfl rfl) ?_
  intro K hK; go_simp; refine hK _ ?_; clear hK K
  refine guard_val (.agg C) rfl (fun w' hw' => by rw [HC.out]; exact run_load_u8s Try.underlying22 i16g (HZC.out w' hw') HCN.out rfl rfl) ?_
  intro K hK; go_simp; refine hK _ ?_; clear hK K
  refine guard_call (.agg AC) 9 #[.agg A, .agg C] rfl (fun w' _ => by kernel_rfl) (fun w' hw' => H8.out w' hw') ?_
  intro K hK; go_simp; refine hK _ ?_; clear hK K
  refine guard_call (.agg D) 12 #[.agg AB, .agg AC] rfl (fun w' _ => by kernel_rfl) (fun w' hw' => H9.out w' hw') ?_
  intro K hK; go_simp; refine hK _ ?_; clear hK K
  refine guard_val (.bool false) rfl (fun w' hw' => by have h := E3.out w'; go_simp) ?_
  intro K hK; go_simp; refine hK _ ?_; clear hK K
  refine wpQuiet_nil ?_
  intro w5 hw5
  have HA5 := Hid.mk' (HZA.out w5 hw5)
  have HB5 := Hid.mk' (HZB.out w5 hw5)
  go_wp2_with (first
    | (refine wpList_load_u8s Try.underlying22 i16g rfl _ rfl g (nts a) HAN.out rfl HA5.out ?_; rw [← HA.out])
    | (refine wpList_load_u8s Try.underlying22 i16g rfl _ rfl (g + 1) (nts b) HBN.out rfl HB5.out ?_; rw [← HB.out])
    | fail)
  refine Calls.mono (H1.out w5 hw5) ?_
  rintro e w6 ⟨rfl, hw6⟩
  have e5 := E5.out w6
  go_upto_region 6 with fail
  clear e5 hw4 hw5 HA5 HB5
  cases za with
  | true =>
    simp only [Bool.true_or] at E5 ⊢
    refine region_same (l := [_, _, _, _, _, _, _, _, _, _, _, _, _, _, _, _, _, _, _, _, _]) (fun w' => But (fun _ => False) wz w') (by kernel_rfl) (by kernel_rfl) hw6.drew ?_
    refine guard_val (.agg A) rfl (fun w' hw' => by rw [HA.out]; exact run_load_u8s Try.underlying22 i16g (HZA.out w' hw') HAN.out rfl rfl) ?_
    intro K hK; go_simp; refine hK _ ?_; clear hK K
    refine guard_val (.agg O) rfl (fun w' hw' => by clear hz; rw [HO.out, gone_lit]; go_simp) ?_
    intro K hK; go_simp; refine hK _ ?_; clear hK K
    refine guard_call (.agg A) 9 #[.agg A, .agg O] rfl (fun w' _ => by kernel_rfl) (fun w' hw' => H10.out w' hw') ?_
    intro K hK; go_simp; refine hK _ ?_; clear hK K
    refine guard_val (.agg A) rfl (fun w' hw' => by rw [HA.out]; exact run_load_u8s Try.underlying22 i16g (HZA.out w' hw') HAN.out rfl rfl) ?_
    intro K hK; go_simp; refine hK _ ?_; clear hK K
    refine guard_val (.bool true) rfl (fun w' hw' => by have h := E4.out w'; go_simp) ?_
    intro K hK; go_simp; refine hK _ ?_; clear hK K
    refine guard_val _ rfl (fun w' _ => rfl) ?_
    intro K hK; go_simp; refine hK _ ?_; clear hK K
    refine guard_val _ rfl (fun w' _ => rfl) ?_
    intro K hK; go_simp; refine hK _ ?_; clear hK K
    refine guard_val (.agg A) rfl (fun w' hw' => by rw [HA.out]; exact run_load_u8s Try.underlying22 i16g (HZA.out w' hw') HAN.out rfl rfl) ?_
    intro K hK; go_simp; refine hK _ ?_; clear hK K
    refine guard_val (.agg Z) rfl (fun w' hw' => by first | (go_simp; done) | (clear hz; rw [HZ.out]; go_simp; rfl)) ?_
    intro K hK; go_simp; refine hK _ ?_; clear hK K
    refine guard_val (.bool true) rfl (fun w' hw' => by have h := E6.out w'; go_simp) ?_
    intro K hK; go_simp; refine hK _ ?_; clear hK K
    refine guard_val _ rfl (fun w' _ => rfl) ?_
    intro K hK; go_simp; refine hK _ ?_; clear hK K
    refine guard_skip rfl ?_
    intro K hK; go_simp; refine hK _ ?_; clear hK K
    refine guard_skip rfl ?_
    intro K hK; go_simp; refine hK _ ?_; clear hK K
    refine guard_skip rfl ?_
    intro K hK; go_simp; refine hK _ ?_; clear hK K
    refine guard_val _ rfl (fun w' _ => rfl) ?_
    intro K hK; go_simp; refine hK _ ?_; clear hK K
    refine guard_val _ rfl (fun w' _ => rfl) ?_
    intro K hK; go_simp; refine hK _ ?_; clear hK K
    refine guard_val _ rfl (fun w' _ => rfl) ?_
    intro K hK; go_simp; refine hK _ ?_; clear hK K
    refine guard_val _ rfl (fun w' _ => rfl) ?_
    intro K hK; go_simp; refine hK _ ?_; clear hK K
    refine guard_call (.bool true) 11 #[] rfl (fun w' _ => by kernel_rfl) (fun w' hw' => (gawake_any w').mono (fun e w'' h => ⟨h.1, hw'.trans h.2⟩)) ?_
    intro K hK; go_simp; refine hK _ ?_; clear hK K
    refine guard_val _ rfl (fun w' _ => rfl) ?_
    intro K hK; go_simp; refine hK _ ?_; clear hK K
    refine guard_val _ rfl (fun w' _ => rfl) ?_
    intro K hK; go_simp; refine hK _ ?_; clear hK K
    refine wpQuiet_nil ?_
    intro w9 hw9
    go_wp2
    go_ret
    exact ⟨rfl, (HZT.out.trans hw9).below (Nat.le_refl _) (fun _ _ h => h)⟩
  | false =>
    simp only [Bool.false_or] at E5 ⊢
    refine region_same (l := [_, _, _, _, _, _, _, _, _, _, _, _, _, _, _, _, _, _, _, _, _]) (fun w' => But (fun _ => False) wz w') (by kernel_rfl) (by kernel_rfl) hw6.drew ?_
    refine guard_val (.agg A) rfl (fun w' hw' => by rw [HA.out]; exact run_load_u8s Try.underlying22 i16g (HZA.out w' hw') HAN.out rfl rfl) ?_
    intro K hK; go_simp; refine hK _ ?_; clear hK K
    refine guard_val (.agg O) rfl (fun w' hw' => by clear hz; rw [HO.out, gone_lit]; go_simp) ?_
    intro K hK; go_simp; refine hK _ ?_; clear hK K
    refine guard_call (.agg A) 9 #[.agg A, .agg O] rfl (fun w' _ => by kernel_rfl) (fun w' hw' => H10.out w' hw') ?_
    intro K hK; go_simp; refine hK _ ?_; clear hK K
    refine guard_val (.agg A) rfl (fun w' hw' => by rw [HA.out]; exact run_load_u8s Try.underlying22 i16g (HZA.out w' hw') HAN.out rfl rfl) ?_
    intro K hK; go_simp; refine hK _ ?_; clear hK K
    refine guard_val (.bool true) rfl (fun w' hw' => by have h := E4.out w'; go_simp) ?_
    intro K hK; go_simp; refine hK _ ?_; clear hK K
    refine guard_val _ rfl (fun w' _ => rfl) ?_
    intro K hK; go_simp; refine hK _ ?_; clear hK K
    refine guard_val _ rfl (fun w' _ => rfl) ?_
    intro K hK; go_simp; refine hK _ ?_; clear hK K
    refine guard_val (.agg A) rfl (fun w' hw' => by rw [HA.out]; exact run_load_u8s Try.underlying22 i16g (HZA.out w' hw') HAN.out rfl rfl) ?_
    intro K hK; go_simp; refine hK _ ?_; clear hK K
    refine guard_val (.agg Z) rfl (fun w' hw' => by first | (go_simp; done) | (clear hz; rw [HZ.out]; go_simp; rfl)) ?_
    intro K hK; go_simp; refine hK _ ?_; clear hK K
    refine guard_val (.bool false) rfl (fun w' hw' => by have h := E6.out w'; go_simp) ?_
    intro K hK; go_simp; refine hK _ ?_; clear hK K
    refine guard_val _ rfl (fun w' _ => rfl) ?_
    intro K hK; go_simp; refine hK _ ?_; clear hK K
    refine guard_val (.agg B) rfl (fun w' hw' => by rw [HB.out]; exact run_load_u8s Try.underlying22 i16g (HZB.out w' hw') HBN.out rfl rfl) ?_
    intro K hK; go_simp; refine hK _ ?_; clear hK K
    refine guard_val (.agg Z) rfl (fun w' hw' => by first | (go_simp; done) | (clear hz; rw [HZ.out]; go_simp; rfl)) ?_
    intro K hK; go_simp; refine hK _ ?_; clear hK K
    refine guard_val (.bool zb) rfl (fun w' hw' => by have h := E7.out w'; go_simp) ?_
    intro K hK; go_simp; refine hK _ ?_; clear hK K
    refine guard_val (.bool zb) rfl (fun w' hw' => rfl) ?_
    intro K hK; go_simp; refine hK _ ?_; clear hK K
    refine guard_val (.bool true) rfl (fun w' hw' => by cases zb <;> rfl) ?_
    intro K hK; go_simp; refine hK _ ?_; clear hK K
    refine guard_val _ rfl (fun w' _ => rfl) ?_
    intro K hK; go_simp; refine hK _ ?_; clear hK K
    refine guard_val _ rfl (fun w' _ => rfl) ?_
    intro K hK; go_simp; refine hK _ ?_; clear hK K
    refine guard_call (.bool true) 11 #[] rfl (fun w' _ => by kernel_rfl) (fun w' hw' => (gawake_any w').mono (fun e w'' h => ⟨h.1, hw'.trans h.2⟩)) ?_
    intro K hK; go_simp; refine hK _ ?_; clear hK K
    refine guard_val _ rfl (fun w' _ => rfl) ?_
    intro K hK; go_simp; refine hK _ ?_; clear hK K
    refine guard_val _ rfl (fun w' _ => rfl) ?_
    intro K hK; go_simp; refine hK _ ?_; clear hK K
    refine wpQuiet_nil ?_
    intro w9 hw9
    go_wp2
    go_ret
    exact ⟨rfl, (HZT.out.trans hw9).below (Nat.le_refl _) (fun _ _ h => h)⟩

set_option maxRecDepth 100000 in
theorem ghashRing_lifted (os : Os) (started : os.Started) (H : Type) (enc : TypeId × Value → H) :
    ReturnsInHanded {} Try.checked os 4 .any (Rows.ghashRingSpec.pre6 enc Try.prog Try.f4 Rows.ghashRingRow.domain false) (Rows.ghashRingSpec.post enc Try.prog Try.f4 false true false false) := by
  refine returnsInHanded_of_change_sized (C := Try.checked) (by kernel_rfl) started (by kernel_rfl) Try.func4
    (ChangeSpec.witness6 (enc := enc) (C := Try.checked) false ⟨#[], #[.agg #[.int .u8 0, .int .u8 0, .int .u8 0, .int .u8 0, .int .u8 0, .int .u8 0, .int .u8 0, .int .u8 0, .int .u8 0, .int .u8 0, .int .u8 0, .int .u8 0, .int .u8 0, .int .u8 0, .int .u8 0, .int .u8 0], .agg #[.int .u8 0, .int .u8 0, .int .u8 0, .int .u8 0, .int .u8 0, .int .u8 0, .int .u8 0, .int .u8 0, .int .u8 0, .int .u8 0, .int .u8 0, .int .u8 0, .int .u8 0, .int .u8 0, .int .u8 0, .int .u8 0], .agg #[.int .u8 0, .int .u8 0, .int .u8 0, .int .u8 0, .int .u8 0, .int .u8 0, .int .u8 0, .int .u8 0, .int .u8 0, .int .u8 0, .int .u8 0, .int .u8 0, .int .u8 0, .int .u8 0, .int .u8 0, .int .u8 0]], []⟩ 8 (by kernel_rfl) (by kernel_rfl) (by kernel_rfl) (by kernel_rfl)) ?_
  intro W base args ds gs before hval0 hW hcnd hsz0 _
  have hsz : (DataW.weightsEach Try.prog (Try.f4.params.toList ++ Rows.ghashRingSpec.plain.varTypes Try.prog) (ds ++ gs)).all (· ≤ reachBytes) = true := hsz0
  clear hsz0
  have hval : ∀ (j : Nat) t v, Try.f4.params[j]? = some t → args[j]? = some v → Value.okWide Try.prog W .any base t v := hval0
  have hW' := hW
  obtain ⟨p, q, hA0, hV, rfl, hfz, hnd⟩ := hW
  have hA : DataW.TrodAll enc Try.prog W 0 (fun _ => true) true Try.f4.params.toList args.toList ds p := hA0
  rw [Try.params4] at hA hval hsz
  obtain ⟨v0, vs0, d0, ds0, p0, q0, hargs, rfl, rfl, h0, r0⟩ := trodAll_cons hA
  obtain ⟨v1, vs1, d1, ds1, p1, q1, rfl, rfl, rfl, h1, r1⟩ := trodAll_cons r0
  obtain ⟨v2, vs2, d2, ds2, p2, q2, rfl, rfl, rfl, h2, r2⟩ := trodAll_cons r1
  obtain ⟨rfl, rfl, rfl⟩ := trodAll_nil r2
  obtain rfl : args = #[v0, v1, v2] := by cases args; simp_all
  obtain ⟨rfl, rfl⟩ := trodVars_none hV
  have lt0 : ∀ x ∈ p0, x.block < W.heap.size := by obtain ⟨m, hm⟩ := h0; exact DataW.trod_lt m _ _ _ hm
  obtain ⟨z0, w0⟩ := view_arr Try.underlying22 Try.underlying5 (by kernel_rfl) (by kernel_rfl) (hval 0 22 v0 rfl rfl) h0 lt0 hsz (j := 0) rfl rfl
  have lt1 : ∀ x ∈ p1, x.block < W.heap.size := by obtain ⟨m, hm⟩ := h1; exact DataW.trod_lt m _ _ _ hm
  obtain ⟨z1, w1⟩ := view_arr Try.underlying22 Try.underlying5 (by kernel_rfl) (by kernel_rfl) (hval 1 22 v1 rfl rfl) h1 lt1 hsz (j := 1) rfl rfl
  have lt2 : ∀ x ∈ p2, x.block < W.heap.size := by obtain ⟨m, hm⟩ := h2; exact DataW.trod_lt m _ _ _ hm
  obtain ⟨z2, w2⟩ := view_arr Try.underlying22 Try.underlying5 (by kernel_rfl) (by kernel_rfl) (hval 2 22 v2 rfl rfl) h2 lt2 hsz (j := 2) rfl rfl
  clear hA0 hval0
  refine (ghashRing_walk v0 z0 v1 z1 v2 z2 W w0 w1 w2).mono fun e W' ⟨he, bel⟩ => ?_
  subst he
  exact ⟨_, rfl, _, _, _, [], _, [], hW', trodAll_mk1 (shut_bool Try.underlying4 _), (trodAll_cons_mk (Below.trod (by kernel_rfl) (by kernel_rfl) (of_decide_eq_true (by kernel_rfl)) h0 bel lt0) (trodAll_cons_mk (Below.trod (by kernel_rfl) (by kernel_rfl) (of_decide_eq_true (by kernel_rfl)) h1 bel lt1) (trodAll_cons_mk (Below.trod (by kernel_rfl) (by kernel_rfl) (of_decide_eq_true (by kernel_rfl)) h2 bel lt2) trodAll_mk0))), rfl, bel.frame _, fun h => by cases h⟩

theorem ghashRing_holds : Rows.GhashRingSaid :=
  OpenClaim.holds_of_wide 4 Try.f4 rfl rfl rfl rfl rfl rfl rfl ⟨rfl, rfl, rfl, rfl, rfl⟩ rfl rfl rfl rfl rfl (by kernel_rfl) Try.func4 (by kernel_rfl)
    (of_decide_eq_true (by kernel_rfl)) (by unfold Func.isWrapper; first | (rw [if_pos (by decide +kernel)]; kernel_rfl) | (rw [if_neg (by decide +kernel)]; exact ⟨rfl, rfl⟩))
    (fun os started H enc _ => ghashRing_lifted os started H enc)
#print axioms ghashRing_holds
end Go.Proofs.Ytpdkdeebdhdhgaa
