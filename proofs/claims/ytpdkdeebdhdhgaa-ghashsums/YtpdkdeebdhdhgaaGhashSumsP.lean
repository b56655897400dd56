/- The sum over any bytes is the document's; they stay. No condition. -/
import Derived.Test.YtpdkdeebdhdhgaaGhashAwake
namespace Go.Proofs.Ytpdkdeebdhdhgaa
open Go.ChangeShapes Go.WideShapes Go.ChangeAt Go.RowKit

set_option maxRecDepth 100000 in
set_option maxHeartbeats 4000000 in
theorem ghashSums_walk (u : Value) (h : List B8) (v1 : Value) (xs : List Nat) (v2 : Value) (ys : List Nat) (w : World) (hh : h.length = 16 ∧ u = .agg (u8s (nts h)).toArray) (h1 : Bs w v1 xs ∧ xs.length ≤ 140737488351232) (h2 : Bs w v2 ys ∧ ys.length ≤ 140737488351232) :
    Calls Try.prog 5 #[u, v1, v2] w fun e w' => e = .returned (.bool true) ∧ Below w.heap.size w w' := by
  obtain ⟨hh, rfl⟩ := hh
  obtain ⟨h1, hl1⟩ := h1
  obtain ⟨h2, hl2⟩ := h2
  obtain ⟨H, hH⟩ : ∃ H, H = (u8s (nts h)).toArray := ⟨_, rfl⟩
  rw [← hH]
  have HH := Hid.mk' hH
  obtain ⟨g, hg⟩ : ∃ g, g = w.heap.size := ⟨_, rfl⟩
  obtain ⟨W0, hW0⟩ : ∃ W0, W0 = w.alloc (.cells H 22) := ⟨_, rfl⟩
  have HK0 := Hid.mk' (show Blk W0 g 22 (u8s (nts h)) by rw [hW0, hH]; exact Blk.new hg.symm)
  have HT0 := Hid.mk' (show But (fun _ => False) w W0 by rw [hW0]; exact (But.refl _ w).alloc _)
  have HV1 := Hid.mk' (h1.but HT0.out (fun _ _ _ h => h))
  have HV2 := Hid.mk' (h2.but HT0.out (fun _ _ _ h => h))
  have HHN : Hid ((nts h).length = 16) := by show _ = _; rw [nts_len]; exact hh
  have HHL := Hid.mk' hh
  obtain ⟨ao1, c1, rfl⟩ : ∃ ao c, v1 = .slice ao xs.length c := by obtain ⟨ao, c, e, -, -⟩ := h1.gen; exact ⟨ao, c, e⟩
  obtain ⟨ao2, c2, rfl⟩ : ∃ ao c, v2 = .slice ao ys.length c := by obtain ⟨ao, c, e, -, -⟩ := h2.gen; exact ⟨ao, c, e⟩
  obtain ⟨n, hn⟩ : ∃ n, n = xs.length := ⟨_, rfl⟩
  obtain ⟨k, hk⟩ : ∃ k, k = ys.length := ⟨_, rfl⟩
  have HN := Hid.mk' hn
  have HM := Hid.mk' hk
  rw [← hn] at HV1 hl1 ⊢
  rw [← hk] at HV2 hl2 ⊢
  have HG := Hid.mk' hg
  have HW0 := Hid.mk' hW0
  clear hh h1 h2 hH hg hW0 hn hk
  by_cases hbig : n ≤ 2000 ∧ k ≤ 2000
  · obtain ⟨hn2, hk2⟩ := hbig
    have t1 : ¬ (2000 : Int) < (n : Int) := by omega
    have t2 : ¬ (2000 : Int) < (k : Int) := by omega
    have HL1 := Hid.mk' (lent_any HV1.out (by rw [← HN.out]; omega))
    rw [← HN.out] at HL1
    go_enter Try.func5, Try.ntmps5
    go_wp2_with fail
    rw [← HW0.out, ← HG.out]
    refine Calls.mono HL1.out ?_
    rintro e w1 ⟨g1, rfl, hg1, how1, hbel1⟩
    have hb1 := But.of (R := fun _ => False) hbel1
    have HO1 := Hid.mk' how1
    have HV11 := Hid.mk' (HV1.out.but hb1 (fun _ _ _ h => h))
    have HV21 := Hid.mk' (HV2.out.but hb1 (fun _ _ _ h => h))
    have HK1 := Hid.mk' (HK0.out.but hb1 (fun h => h))
    have HT1 := Hid.mk' (HT0.out.trans hb1)
    have HL2 := Hid.mk' (lent_any HV21.out (by rw [← HM.out]; omega))
    rw [← HM.out] at HL2
    clear hg1 how1 hbel1 hb1 HL1 HV1 HV2 HK0 HT0
    go_wp2_with fail
    refine Calls.mono HL2.out ?_
    rintro e w2 ⟨g2, rfl, hg2, how2, hbel2⟩
    have hb2 := But.of (R := fun _ => False) hbel2
    have HO12 := Hid.mk' (HO1.out.but hb2 (fun _ _ _ h => h))
    have HO22 := Hid.mk' how2
    have HV12 := Hid.mk' (HV11.out.but hb2 (fun _ _ _ h => h))
    have HV22 := Hid.mk' (HV21.out.but hb2 (fun _ _ _ h => h))
    have HK2 := Hid.mk' (HK1.out.but hb2 (fun h => h))
    have HT2 := Hid.mk' (HT1.out.trans hb2)
    have HNW := Hid.mk' (pnew_any (w := w2) HHL.out)
    rw [← HH.out] at HNW
    clear hg2 how2 hbel2 hb2 HL2 HO1 HV11 HV21 HK1 HT1
    go_wp2_with (first
      | (refine wpList_load_u8s Try.underlying22 i16g rfl _ rfl g (nts h) HHN.out rfl HK2.out ?_; rw [← HH.out])
      | fail)
    refine Calls.mono HNW.out ?_
    rintro e w3 ⟨gk, rfl, hky, -, hb3⟩
    have HKY := Hid.mk' hky
    have HO13 := Hid.mk' (HO12.out.but hb3 (fun _ _ _ h => h))
    have HO23 := Hid.mk' (HO22.out.but hb3 (fun _ _ _ h => h))
    have HV13 := Hid.mk' (HV12.out.but hb3 (fun _ _ _ h => h))
    have HV23 := Hid.mk' (HV22.out.but hb3 (fun _ _ _ h => h))
    have HK3 := Hid.mk' (HK2.out.but hb3 (fun h => h))
    have HT3 := Hid.mk' (HT2.out.trans hb3)
    have HRS := Hid.mk' (rgsum_any HHL.out HV13.out HV23.out (by rw [← HN.out]; omega) (by rw [← HM.out]; omega))
    rw [← HH.out] at HRS
    clear hky hb3 HNW HO12 HO22 HV12 HV22 HK2 HT2
    go_wp2_with (first
      | (refine wpList_load_u8s Try.underlying22 i16g rfl _ rfl g (nts h) HHN.out rfl HK3.out ?_; rw [← HH.out])
      | fail)
    refine Calls.mono HRS.out ?_
    rintro e w4 ⟨rfl, hb4⟩
    obtain ⟨s, hs⟩ : ∃ s, s = gsum h xs ys := ⟨_, rfl⟩
    rw [← hs]
    have HSL : Hid (s.length = 16) := by show _ = _; rw [hs]; exact gsumN_len _ _ _
    have HSN : Hid ((nts s).length = 16) := by show _ = _; rw [nts_len]; exact HSL.out
    have HSE := Hid.mk' hs
    have hz := zeroG
    obtain ⟨Z, hZ⟩ : ∃ Z, Z = (u8s (List.replicate 16 0)).toArray := ⟨_, rfl⟩
    rw [← hZ] at hz
    have HZB : Hid (Blk (w4.alloc (.cells Z 22)) w4.heap.size 22 (u8s (List.replicate 16 0))) := by show Blk _ _ _ _; rw [hZ]; exact Blk.new rfl
    have HB4 := Hid.mk' hb4
    clear hs hb4 hZ HRS HK3
    go_upto_region 6 with (refine wpList_store_u8s i16g rfl _ _ rfl w4.heap.size (nts s) HSN.out rfl (by exact rfl) _ (by simp [u8s]) HZB.out ?_; intro wz hbz hbutz)
    obtain ⟨gs, hgs⟩ : ∃ gs, gs = w4.heap.size := ⟨_, rfl⟩
    rw [← hgs] at hbz hbutz ⊢
    have hsz := HB4.out.size
    have hx : But (fun j => gs ≤ j) w3 wz := ((HB4.out.mono (fun _ _ h => h.elim)).trans ((But.refl _ w4).alloc _)).trans (hbutz.mono (fun j _ e => by show gs ≤ j; omega))
    have o1 := (HO13.out.ge g1 rfl).2
    have o2 := (HO23.out.ge g2 rfl).2
    have o3 := HKY.out.lt
    have hno : ∀ (a c : Nat) (gg : Nat), gg < w3.heap.size → ∀ j, Value.ownBlock (.slice (some ⟨gg, 0, none⟩) a c) = some j → j < w3.heap.size → ¬ (gs ≤ j) := by
      intro a c gg hgg j hj _
      have h1 : gg = j := by simpa [Value.ownBlock] using hj
      omega
    have hO1z := HO13.out.but hx (hno _ _ g1 o1)
    have hO2z := HO23.out.but hx (hno _ _ g2 o2)
    have hKz := HKY.out.but hx (show ¬ (gs ≤ gk) by omega)
    have hV1z := HV13.out.but hx (fun j _ hj => show ¬ (gs ≤ j) by omega)
    have hV2z := HV23.out.but hx (fun j _ hj => show ¬ (gs ≤ j) by omega)
    have HZT := Hid.mk' (HT3.out.then hx (fun i hi e => by have := HT3.out.size; omega))
    have HTK1 : Hid ((xs ++ [201, 202, 203]).take n = xs) := by show _ = _; rw [HN.out]; simp
    have HTK2 : Hid ((ys ++ [201, 202, 203]).take k = ys) := by show _ = _; rw [HM.out]; simp
    obtain ⟨S, hS⟩ : ∃ S, S = (u8s (nts s)).toArray := ⟨_, rfl⟩
    rw [← hS]
    have HS := Hid.mk' hS
    have HSB : Hid (∀ w', But (fun _ => False) wz w' → Blk w' gs 22 (u8s (nts s))) := fun w' hw' => hbz.but hw' (fun h => h)
    have HP1 : Hid (∀ w', But (fun _ => False) wz w' → Calls Try.prog 16 #[.pointer (some ⟨gk, 0, none⟩), .slice (some ⟨g1, 0, none⟩) n (n + 3), .slice (some ⟨g2, 0, none⟩) k (k + 3)] w' fun e w'' => e = .returned (.agg S) ∧ But (fun _ => False) wz w'') := by
      intro w' hw'
      have b1 := Bs.front (n := n) (hO1z.but hw' (fun _ _ _ h => h)).bs (by rw [List.length_append, ← HN.out]; omega) (fun h => by cases h)
      have b2 := Bs.front (n := k) (hO2z.but hw' (fun _ _ _ h => h)).bs (by rw [List.length_append, ← HM.out]; omega) (fun h => by cases h)
      rw [HTK1.out] at b1
      rw [HTK2.out] at b2
      exact (psum_any (hKz.but hw' (fun h => h)) b1 b2 (by rw [← HN.out]; omega) (by rw [← HM.out]; omega)).mono (fun e w'' h => ⟨by rw [h.1, hS, HSE.out], hw'.trans h.2⟩)
    have HK1 : Hid (∀ w', But (fun _ => False) wz w' → Calls Try.prog 17 #[.slice (some ⟨g1, 0, none⟩) n (n + 3), .slice ao1 n c1] w' fun e w'' => e = .returned (.bool true) ∧ But (fun _ => False) wz w'') := by
      intro w' hw'
      have h := kept_true (hV1z.but hw' (fun _ _ _ h => h)) (by rw [← HN.out]; exact hO1z.but hw' (fun _ _ _ h => h))
      rw [← HN.out] at h
      refine h.mono ?_
      rintro e w'' ⟨he, d, rfl⟩
      exact ⟨he, hw'.drewN⟩
    have HK2 : Hid (∀ w', But (fun _ => False) wz w' → Calls Try.prog 17 #[.slice (some ⟨g2, 0, none⟩) k (k + 3), .slice ao2 k c2] w' fun e w'' => e = .returned (.bool true) ∧ But (fun _ => False) wz w'') := by
      intro w' hw'
      have h := kept_true (hV2z.but hw' (fun _ _ _ h => h)) (by rw [← HM.out]; exact hO2z.but hw' (fun _ _ _ h => h))
      rw [← HM.out] at h
      refine h.mono ?_
      rintro e w'' ⟨he, d, rfl⟩
      exact ⟨he, hw'.drewN⟩
    have HEQ : Hid (∀ w', (Op.equalIn 10000 22 (.agg S) (.agg S)).run Try.prog w' = .ok true w') := by
      intro w'
      rw [hS, equal16 _ _ HSL.out HSL.out w']; simp
    clear hS hbz hbutz hgs hsz hx o1 o2 o3 hno hO1z hO2z hKz hV1z hV2z hz HZB HB4 HO13 HO23 HV13 HV23 HKY HT3
    refine region_same (l := [_, _, _, _, _, _, _, _, _, _, _, _, _, _, _, _, _, _, _, _, _, _, _, _, _, _, _, _]) (fun w' => But (fun _ => False) wz w') (by kernel_rfl) (by kernel_rfl) ((But.refl _ _).drew) ?_
    refine guard_val _ rfl (fun w' _ => rfl) ?_
    intro K hK; go_simp; refine hK _ ?_; clear hK K
    refine guard_val _ rfl (fun w' _ => rfl) ?_
    intro K hK; go_simp; refine hK _ ?_; clear hK K
    refine guard_val _ rfl (fun w' _ => rfl) ?_
    intro K hK; go_simp; refine hK _ ?_; clear hK K
    refine guard_call (.agg S) 16 #[.pointer (some ⟨gk, 0, none⟩), .slice (some ⟨g1, 0, none⟩) n (n + 3), .slice (some ⟨g2, 0, none⟩) k (k + 3)] rfl (fun w' _ => by kernel_rfl) (fun w' hw' => HP1.out w' hw') ?_
    intro K hK; go_simp; refine hK _ ?_; clear hK K
    refine guard_val (.agg S) rfl (fun w' hw' => by rw [HS.out]; exact run_load_u8s Try.underlying22 i16g (HSB.out w' hw') HSN.out rfl rfl) ?_
    intro K hK; go_simp; refine hK _ ?_; clear hK K
    refine guard_val (.bool true) rfl (fun w' hw' => by have h := HEQ.out w'; go_simp) ?_
    intro K hK; go_simp; refine hK _ ?_; clear hK K
    refine guard_val _ rfl (fun w' _ => rfl) ?_
    intro K hK; go_simp; refine hK _ ?_; clear hK K
    refine guard_val _ rfl (fun w' _ => rfl) ?_
    intro K hK; go_simp; refine hK _ ?_; clear hK K
    refine guard_val _ rfl (fun w' _ => rfl) ?_
    intro K hK; go_simp; refine hK _ ?_; clear hK K
    refine guard_val _ rfl (fun w' _ => rfl) ?_
    intro K hK; go_simp; refine hK _ ?_; clear hK K
    refine guard_call (.agg S) 16 #[.pointer (some ⟨gk, 0, none⟩), .slice (some ⟨g1, 0, none⟩) n (n + 3), .slice (some ⟨g2, 0, none⟩) k (k + 3)] rfl (fun w' _ => by kernel_rfl) (fun w' hw' => HP1.out w' hw') ?_
    intro K hK; go_simp; refine hK _ ?_; clear hK K
    refine guard_val (.agg S) rfl (fun w' hw' => by rw [HS.out]; exact run_load_u8s Try.underlying22 i16g (HSB.out w' hw') HSN.out rfl rfl) ?_
    intro K hK; go_simp; refine hK _ ?_; clear hK K
    refine guard_val (.bool true) rfl (fun w' hw' => by have h := HEQ.out w'; go_simp) ?_
    intro K hK; go_simp; refine hK _ ?_; clear hK K
    refine guard_val _ rfl (fun w' _ => rfl) ?_
    intro K hK; go_simp; refine hK _ ?_; clear hK K
    refine guard_val _ rfl (fun w' _ => rfl) ?_
    intro K hK; go_simp; refine hK _ ?_; clear hK K
    refine guard_val _ rfl (fun w' _ => rfl) ?_
    intro K hK; go_simp; refine hK _ ?_; clear hK K
    refine guard_val _ rfl (fun w' _ => rfl) ?_
    intro K hK; go_simp; refine hK _ ?_; clear hK K
    refine guard_call (.bool true) 17 #[.slice (some ⟨g1, 0, none⟩) n (n + 3), .slice ao1 n c1] rfl (fun w' _ => by kernel_rfl) (fun w' hw' => HK1.out w' hw') ?_
    intro K hK; go_simp; refine hK _ ?_; clear hK K
    refine guard_val _ rfl (fun w' _ => rfl) ?_
    intro K hK; go_simp; refine hK _ ?_; clear hK K
    refine guard_val _ rfl (fun w' _ => rfl) ?_
    intro K hK; go_simp; refine hK _ ?_; clear hK K
    refine guard_val _ rfl (fun w' _ => rfl) ?_
    intro K hK; go_simp; refine hK _ ?_; clear hK K
    refine guard_val _ rfl (fun w' _ => rfl) ?_
    intro K hK; go_simp; refine hK _ ?_; clear hK K
    refine guard_call (.bool true) 17 #[.slice (some ⟨g2, 0, none⟩) k (k + 3), .slice ao2 k c2] rfl (fun w' _ => by kernel_rfl) (fun w' hw' => HK2.out w' hw') ?_
    intro K hK; go_simp; refine hK _ ?_; clear hK K
    refine guard_val _ rfl (fun w' _ => rfl) ?_
    intro K hK; go_simp; refine hK _ ?_; clear hK K
    refine guard_val _ rfl (fun w' _ => rfl) ?_
    intro K hK; go_simp; refine hK _ ?_; clear hK K
    refine guard_call (.bool true) 11 #[] rfl (fun w' _ => by kernel_rfl) (fun w' hw' => (gawake_any w').mono (fun e w'' h => ⟨h.1, hw'.trans h.2⟩)) ?_
    intro K hK; go_simp; refine hK _ ?_; clear hK K
    refine guard_val _ rfl (fun w' _ => rfl) ?_
    intro K hK; go_simp; refine hK _ ?_; clear hK K
    refine guard_val _ rfl (fun w' _ => rfl) ?_
    intro K hK; go_simp; refine hK _ ?_; clear hK K
    refine wpQuiet_nil ?_
    intro w9 hw9
    go_wp2
    go_ret
    exact ⟨rfl, (HZT.out.trans hw9).below (Nat.le_refl _) (fun _ _ h => h)⟩
  · by_cases hbn : n ≤ 2000
    · have t1 : ¬ (2000 : Int) < (n : Int) := by omega
      have t2 : (2000 : Int) < (k : Int) := by omega
      go_enter Try.func5, Try.ntmps5
      go_wp2_with fail
      rw [← HW0.out]
      refine Calls.mono (gawake_any _) ?_
      rintro e w2 ⟨rfl, hb2⟩
      have HT2 := Hid.mk' (HT0.out.trans hb2)
      clear hb2
      go_wp2
      go_ret
      exact ⟨rfl, HT2.out.below (Nat.le_refl _) (fun _ _ h => h)⟩
    · have t1 : (2000 : Int) < (n : Int) := by omega
      go_enter Try.func5, Try.ntmps5
      go_wp2_with fail
      rw [← HW0.out]
      refine Calls.mono (gawake_any _) ?_
      rintro e w2 ⟨rfl, hb2⟩
      have HT2 := Hid.mk' (HT0.out.trans hb2)
      clear hb2
      go_wp2
      go_ret
      exact ⟨rfl, HT2.out.below (Nat.le_refl _) (fun _ _ h => h)⟩

set_option maxRecDepth 100000 in
theorem ghashSums_lifted (os : Os) (started : os.Started) (H : Type) (enc : TypeId × Value → H) :
    ReturnsInHanded {} Try.checked os 5 .any (Rows.ghashSumsSpec.pre6 enc Try.prog Try.f5 Rows.ghashSumsRow.domain false) (Rows.ghashSumsSpec.post enc Try.prog Try.f5 false true false false) := by
  refine returnsInHanded_of_change_sized (C := Try.checked) (by kernel_rfl) started (by kernel_rfl) Try.func5
    (ChangeSpec.witness6 (enc := enc) (C := Try.checked) false ⟨#[], #[.agg #[.int .u8 0, .int .u8 0, .int .u8 0, .int .u8 0, .int .u8 0, .int .u8 0, .int .u8 0, .int .u8 0, .int .u8 0, .int .u8 0, .int .u8 0, .int .u8 0, .int .u8 0, .int .u8 0, .int .u8 0, .int .u8 0], .slice none 0 0, .slice none 0 0], []⟩ 8 (by kernel_rfl) (by kernel_rfl) (by kernel_rfl) (by kernel_rfl)) ?_
  intro W base args ds gs before hval0 hW hcnd hsz0 _
  have hsz : (DataW.weightsEach Try.prog (Try.f5.params.toList ++ Rows.ghashSumsSpec.plain.varTypes Try.prog) (ds ++ gs)).all (· ≤ reachBytes) = true := hsz0
  clear hsz0
  have hval : ∀ (j : Nat) t v, Try.f5.params[j]? = some t → args[j]? = some v → Value.okWide Try.prog W .any base t v := hval0
  have hW' := hW
  obtain ⟨p, q, hA0, hV, rfl, hfz, hnd⟩ := hW
  have hA : DataW.TrodAll enc Try.prog W 0 (fun _ => true) true Try.f5.params.toList args.toList ds p := hA0
  rw [Try.params5] at hA hval hsz
  obtain ⟨v0, vs0, d0, ds0, p0, q0, hargs, rfl, rfl, h0, r0⟩ := trodAll_cons hA
  obtain ⟨v1, vs1, d1, ds1, p1, q1, rfl, rfl, rfl, h1, r1⟩ := trodAll_cons r0
  obtain ⟨v2, vs2, d2, ds2, p2, q2, rfl, rfl, rfl, h2, r2⟩ := trodAll_cons r1
  obtain ⟨rfl, rfl, rfl⟩ := trodAll_nil r2
  obtain rfl : args = #[v0, v1, v2] := by cases args; simp_all
  obtain ⟨rfl, rfl⟩ := trodVars_none hV
  have lt0 : ∀ x ∈ p0, x.block < W.heap.size := by obtain ⟨m, hm⟩ := h0; exact DataW.trod_lt m _ _ _ hm
  obtain ⟨z0, w0⟩ := view_arr Try.underlying22 Try.underlying5 (by kernel_rfl) (by kernel_rfl) (hval 0 22 v0 rfl rfl) h0 lt0 hsz (j := 0) rfl rfl
  have lt1 : ∀ x ∈ p1, x.block < W.heap.size := by obtain ⟨m, hm⟩ := h1; exact DataW.trod_lt m _ _ _ hm
  obtain ⟨z1, w1⟩ := view_bytes Try.underlying27 Try.underlying5 (by kernel_rfl) (by kernel_rfl) (hval 1 27 v1 rfl rfl) h1 lt1 hsz (j := 1) rfl rfl
  have lt2 : ∀ x ∈ p2, x.block < W.heap.size := by obtain ⟨m, hm⟩ := h2; exact DataW.trod_lt m _ _ _ hm
  obtain ⟨z2, w2⟩ := view_bytes Try.underlying27 Try.underlying5 (by kernel_rfl) (by kernel_rfl) (hval 2 27 v2 rfl rfl) h2 lt2 hsz (j := 2) rfl rfl
  clear hA0 hval0
  refine (ghashSums_walk v0 z0 v1 z1 v2 z2 W w0 w1 w2).mono fun e W' ⟨he, bel⟩ => ?_
  subst he
  exact ⟨_, rfl, _, _, _, [], _, [], hW', trodAll_mk1 (shut_bool Try.underlying4 _), (trodAll_cons_mk (Below.trod (by kernel_rfl) (by kernel_rfl) (of_decide_eq_true (by kernel_rfl)) h0 bel lt0) (trodAll_cons_mk (Below.trod (by kernel_rfl) (by kernel_rfl) (of_decide_eq_true (by kernel_rfl)) h1 bel lt1) (trodAll_cons_mk (Below.trod (by kernel_rfl) (by kernel_rfl) (of_decide_eq_true (by kernel_rfl)) h2 bel lt2) trodAll_mk0))), rfl, bel.frame _, fun h => by cases h⟩

theorem ghashSums_holds : Rows.GhashSumsSaid :=
  OpenClaim.holds_of_wide 5 Try.f5 rfl rfl rfl rfl rfl rfl rfl ⟨rfl, rfl, rfl, rfl, rfl⟩ rfl rfl rfl rfl rfl (by kernel_rfl) Try.func5 (by kernel_rfl)
    (of_decide_eq_true (by kernel_rfl)) (by unfold Func.isWrapper; first | (rw [if_pos (by decide +kernel)]; kernel_rfl) | (rw [if_neg (by decide +kernel)]; exact ⟨rfl, rfl⟩))
    (fun os started H enc _ => ghashSums_lifted os started H enc)
#print axioms ghashSums_holds
end Go.Proofs.Ytpdkdeebdhdhgaa
