/- Bytes of which one is turned have another sum, under each key but 0. No condition. -/
import Derived.Test.YtpdkdeebdhdhgaaGhashAwake
import Derived.Test.YtpdkdeebdhdhgaaPicks
namespace Go.Proofs.Ytpdkdeebdhdhgaa
open Go.ChangeShapes Go.WideShapes Go.ChangeAt Go.RowKit

theorem gsum_len (h : List B8) (aad text : List Nat) : (gsum h aad text).length = 16 := gsumN_len _ _ _
theorem padB_nil : padB [] = [] := rfl
theorem gall_text (xs : List Nat) (i z : Nat) (h : i < xs.length) : gall [] (xs.set i z) = (gall [] xs).set i z := by
  unfold gall
  rw [padB_set xs i z h, List.length_set, padB_nil, List.nil_append, List.nil_append, List.set_append_left _ _ (by rw [padB_len]; unfold nblk; omega)]
theorem gall_aad (xs : List Nat) (i z : Nat) (h : i < xs.length) : gall (xs.set i z) [] = (gall xs []).set i z := by
  unfold gall
  rw [padB_set xs i z h, List.length_set, padB_nil, List.append_nil, List.append_nil, List.set_append_left _ _ (by rw [padB_len]; unfold nblk; omega)]
theorem turned_gall {h : List B8} (hh : h.length = 16) (L : List Nat) (i n : Nat) (hi : i < 16 * n) (hL : L.length = n * 16) (y : B8) : (gsumN h L n = gsumN h (L.set i (b8 (bt L i ^^^ y))) n) = (y = 0#8 ∨ h = gzero) := by
  have hil : i < L.length := by omega
  have e0 : bt (L.set i (b8 (bt L i ^^^ y))) i = bt L i ^^^ y := by
    rw [bt_set L i _ i hil, if_pos rfl]
    unfold b8
    simp
  rw [turned_sum hh i n hi (fun j hj => by rw [bt_set L i _ j hil, if_neg hj]), e0]
  refine propext (or_congr_left ⟨fun e => ?_, fun e => by rw [e]; simp⟩)
  have e2 : bt L i ^^^ bt L i = bt L i ^^^ (bt L i ^^^ y) := congrArg (bt L i ^^^ ·) e
  rw [BitVec.xor_self, ← BitVec.xor_assoc, BitVec.xor_self, BitVec.zero_xor] at e2
  exact e2.symm
theorem apart_text {h : List B8} (hh : h.length = 16) (xs : List Nat) (i : Nat) (hi : i < xs.length) (y : B8) : (gsum h [] xs = gsum h [] (xs.set i (b8 (bt xs i ^^^ y)))) = (y = 0#8 ∨ h = gzero) := by
  have hb : bt (gall [] xs) i = bt xs i := by
    unfold bt gall padB List.getD
    simp only [List.length_nil, List.nil_append]
    rw [List.append_assoc, List.append_assoc, show List.replicate ((16 - 0 % 16) % 16) 0 = ([] : List Nat) from rfl, List.nil_append, List.getElem?_append_left hi]
  unfold gsum
  rw [gall_text xs i _ hi, List.length_set, ← hb]
  exact turned_gall hh (gall [] xs) i _ (by unfold nblk; simp; omega) (gall_len [] xs) y
theorem apart_aad {h : List B8} (hh : h.length = 16) (xs : List Nat) (i : Nat) (hi : i < xs.length) (y : B8) : (gsum h xs [] = gsum h (xs.set i (b8 (bt xs i ^^^ y))) []) = (y = 0#8 ∨ h = gzero) := by
  have hb : bt (gall xs []) i = bt xs i := by
    unfold bt gall padB List.getD
    rw [List.append_assoc, List.append_assoc, List.getElem?_append_left hi]
  unfold gsum
  rw [gall_aad xs i _ hi, List.length_set, ← hb]
  exact turned_gall hh (gall xs []) i _ (by unfold nblk; simp; omega) (gall_len xs []) y
set_option maxRecDepth 100000 in
set_option maxHeartbeats 4000000 in
theorem ghashApart_walk (u : Value) (h : List B8) (v : Value) (xs : List Nat) (at0 by0 : Int) (w : World) (hh : h.length = 16 ∧ u = .agg (u8s (nts h)).toArray) (hv : Bs w v xs ∧ xs.length ≤ 140737488351232) (ha : (Lit.int .i64 at0).wf = true) (hby : (Lit.int .u8 by0).wf = true) :
    Calls Try.prog 7 #[u, v, .int .i64 at0, .int .u8 by0] w fun e w' => e = .returned (.bool true) ∧ Below w.heap.size w w' := by
  obtain ⟨hh, rfl⟩ := hh
  obtain ⟨hv, hl⟩ := hv
  obtain ⟨y, rfl⟩ := byte_of hby
  clear hby
  obtain ⟨H, hH⟩ : ∃ H, H = (u8s (nts h)).toArray := ⟨_, rfl⟩
  rw [← hH]
  have HH := Hid.mk' hH
  obtain ⟨g, hg⟩ : ∃ g, g = w.heap.size := ⟨_, rfl⟩
  obtain ⟨W0, hW0⟩ : ∃ W0, W0 = w.alloc (.cells H 22) := ⟨_, rfl⟩
  have HK0 := Hid.mk' (show Blk W0 g 22 (u8s (nts h)) by rw [hW0, hH]; exact Blk.new hg.symm)
  have HT0 := Hid.mk' (show But (fun _ => False) w W0 by rw [hW0]; exact (But.refl _ w).alloc _)
  have HV0 := Hid.mk' (hv.but HT0.out (fun _ _ _ h => h))
  have HHN : Hid ((nts h).length = 16) := by show _ = _; rw [nts_len]; exact hh
  have HHL := Hid.mk' hh
  obtain ⟨ao, cp, rfl⟩ : ∃ ao c, v = .slice ao xs.length c := by obtain ⟨ao, c, e, -, -⟩ := hv.gen; exact ⟨ao, c, e⟩
  obtain ⟨n, hn⟩ : ∃ n, n = xs.length := ⟨_, rfl⟩
  have HN := Hid.mk' hn
  rw [← hn] at HV0 hl hv ⊢
  have HG := Hid.mk' hg
  have HW0 := Hid.mk' hW0
  have HXL := Hid.mk' hv.1
  have HVW := Hid.mk' hv
  have HAT := Hid.mk' ha
  clear hh hv hH hg hW0 hn ha
  by_cases hbig : 0 < n ∧ n ≤ 2000
  · obtain ⟨hn0, hn2⟩ := hbig
    have t0 : ((n : Int) == 0) = false := by simp; omega
    have t1 : ¬ (2000 : Int) < (n : Int) := by omega
    have HNW := Hid.mk' (pnew_any (w := W0) HHL.out)
    rw [← HH.out] at HNW
    have HK00 : Hid (Blk (w.alloc (.cells H 22)) w.heap.size 22 (u8s (nts h))) := by show Blk _ _ _ _; rw [← HW0.out, ← HG.out]; exact HK0.out
    go_enter Try.func7, Try.ntmps7
    go_wp2_with (first
      | (refine wpList_load_u8s Try.underlying22 i16g rfl _ rfl w.heap.size (nts h) HHN.out rfl HK00.out ?_; rw [← HH.out])
      | fail)
    rw [← HW0.out, ← HG.out]
    refine Calls.mono HNW.out ?_
    rintro e w1 ⟨gk, rfl, hky, -, hb1⟩
    have HKY1 := Hid.mk' hky
    have HK1 := Hid.mk' (HK0.out.but hb1 (fun h => h))
    have HV1 := Hid.mk' (HV0.out.but hb1 (fun _ _ _ h => h))
    have HT1 := Hid.mk' (HT0.out.trans hb1)
    have HCP := Hid.mk' (copy_any HV1.out (by rw [← HN.out]; omega))
    clear hky hb1 HNW HK0 HV0 HT0 HK00
    go_wp2_with fail
    refine Calls.mono HCP.out ?_
    rintro e w2 ⟨v2, rfl, how, hbel⟩
    have hb2 := But.of (R := fun _ => False) hbel
    obtain ⟨-, h0 | ⟨gc, cc, cur, rfl, hgc, hblk, -, -, -, -⟩⟩ := how.own
    · have := h0.2; have := HN.out; omega
    have HBS2 := Hid.mk' how.bs
    have HKY2 := Hid.mk' (HKY1.out.but hb2 (fun h => h))
    have HK2 := Hid.mk' (HK1.out.but hb2 (fun h => h))
    have HV2 := Hid.mk' (HV1.out.but hb2 (fun _ _ _ h => h))
    have HT2 := Hid.mk' (HT1.out.trans hb2)
    have HGC : Hid (gk < gc ∧ g < gc ∧ w.heap.size ≤ gc ∧ w1.heap.size ≤ gc) := ⟨by have := HKY1.out.lt; omega, by have := HK1.out.lt; omega, by have := HT1.out.size; omega, hgc⟩
    have HPK := Hid.mk' (pickOf_any at0 n HAT.out hn0 (by omega) w2)
    rw [← HN.out] at HBS2 ⊢
    have f1' : w2.frozen? ⟨gc, 0, none⟩ = false := frozen_of_row w2 gc 0 _ _ hblk
    have HFR : Hid (∀ i, w2.frozen? ⟨gc, i, none⟩ = false) := fun i => frozen_of_row w2 gc i _ _ hblk
    clear f1' how hbel hb2 hgc hblk HCP HKY1 HK1 HV1 HT1
    go_wp2_with fail
    refine Calls.mono HPK.out ?_
    rintro e w2' ⟨i, rfl, hin, hw⟩
    have hw' := hw.symm
    subst hw'
    have hii : (i : Int) < (n : Int) := by omega
    have hcell : w2.cell? ⟨gc, i, none⟩ = some (.int .u8 (xs.getD i 0 : Nat)) := by
      obtain ⟨-, -, ⟨e, -⟩ | ⟨-, b, off, cap', e, -, -, hc⟩⟩ := HBS2.out
      · have := HN.out; rw [e] at this; simp at this; omega
      · simp only [Value.slice.injEq, Option.some.injEq, Addr.mk.injEq] at e
        obtain ⟨⟨rfl, rfl, -⟩, -, -⟩ := e
        have := hc i (by rw [← HN.out]; exact hin)
        rwa [Nat.zero_add] at this
    have hx256 : xs.getD i 0 < 256 := HXL.out _ (getD_mem xs i (by rw [← HN.out]; exact hin))
    have hbx : xs.getD i 0 = b8 (bt xs i) := by unfold bt; rw [b8_of _ hx256]
    rw [hbx] at hcell
    have hfr := HFR.out i
    have hxo := xor_b8 (bt xs i) y
    have HIN := Hid.mk' hin
    generalize hX : bt xs i = X at *
    have HX := Hid.mk' hX
    clear hX hbx hx256 HPK HFR
    go_upto_region 7 with fail
    obtain ⟨w3, hw3⟩ : ∃ w3, w3 = w2.setCell ⟨gc, i, none⟩ (.int .u8 (b8 (X ^^^ y) : Nat)) := ⟨_, rfl⟩
    rw [← hw3]
    have hb3 : But (· = gc) w2 w3 := by rw [hw3]; exact (But.refl (· = gc) w2).setCell (p := ⟨gc, i, none⟩) (fun _ => rfl) _
    have HB3 := Hid.mk' (show Bs w3 (.slice (some ⟨gc, 0, none⟩) n cc) (xs.set i (b8 (X ^^^ y))) by rw [hw3]; exact HBS2.out.setOne hin HN.out.symm (b8_lt _))
    have HKY3 := Hid.mk' (HKY2.out.but hb3 (show ¬ (gk = gc) by have := HGC.out.1; omega))
    have HK3 := Hid.mk' (HK2.out.but hb3 (show ¬ (g = gc) by have := HGC.out.2.1; omega))
    have HT3 := Hid.mk' (HT2.out.then hb3 (fun j hj e => by have := HGC.out.2.2.1; omega))
    have HV3 := Hid.mk' (HVW.out.but HT3.out (fun _ _ _ h => h))
    obtain ⟨zs, hzs⟩ : ∃ zs, zs = xs.set i (b8 (X ^^^ y)) := ⟨_, rfl⟩
    rw [← hzs] at HB3
    have HZL : Hid (zs.length ≤ 10000) := by show _ ≤ _; rw [hzs, List.length_set, ← HN.out]; omega
    have HXL2 : Hid (xs.length ≤ 10000) := by show _ ≤ _; rw [← HN.out]; omega
    obtain ⟨S1, hS1⟩ : ∃ S, S = (u8s (nts (gsum h [] xs))).toArray := ⟨_, rfl⟩
    obtain ⟨S2, hS2⟩ : ∃ S, S = (u8s (nts (gsum h [] zs))).toArray := ⟨_, rfl⟩
    obtain ⟨S3, hS3⟩ : ∃ S, S = (u8s (nts (gsum h xs []))).toArray := ⟨_, rfl⟩
    obtain ⟨S4, hS4⟩ : ∃ S, S = (u8s (nts (gsum h zs []))).toArray := ⟨_, rfl⟩
    have HS1 : Hid (∀ w', But (fun _ => False) w3 w' → Calls Try.prog 16 #[.pointer (some ⟨gk, 0, none⟩), .slice none 0 0, .slice ao n cp] w' fun e w'' => e = .returned (.agg S1) ∧ But (fun _ => False) w3 w'') := by
      intro w' hw'
      rw [hS1]
      exact (psum_any (HKY3.out.but hw' (fun h => h)) (Bs.nil w') (HV3.out.but hw' (fun _ _ _ h => h)) (by decide) HXL2.out).mono (fun e w'' h => ⟨h.1, hw'.trans h.2⟩)
    have HS2 : Hid (∀ w', But (fun _ => False) w3 w' → Calls Try.prog 16 #[.pointer (some ⟨gk, 0, none⟩), .slice none 0 0, .slice (some ⟨gc, 0, none⟩) n cc] w' fun e w'' => e = .returned (.agg S2) ∧ But (fun _ => False) w3 w'') := by
      intro w' hw'
      rw [hS2]
      exact (psum_any (HKY3.out.but hw' (fun h => h)) (Bs.nil w') (HB3.out.but hw' (fun _ _ _ h => h)) (by decide) HZL.out).mono (fun e w'' h => ⟨h.1, hw'.trans h.2⟩)
    have HS3 : Hid (∀ w', But (fun _ => False) w3 w' → Calls Try.prog 16 #[.pointer (some ⟨gk, 0, none⟩), .slice ao n cp, .slice none 0 0] w' fun e w'' => e = .returned (.agg S3) ∧ But (fun _ => False) w3 w'') := by
      intro w' hw'
      rw [hS3]
      exact (psum_any (HKY3.out.but hw' (fun h => h)) (HV3.out.but hw' (fun _ _ _ h => h)) (Bs.nil w') HXL2.out (by decide)).mono (fun e w'' h => ⟨h.1, hw'.trans h.2⟩)
    have HS4 : Hid (∀ w', But (fun _ => False) w3 w' → Calls Try.prog 16 #[.pointer (some ⟨gk, 0, none⟩), .slice (some ⟨gc, 0, none⟩) n cc, .slice none 0 0] w' fun e w'' => e = .returned (.agg S4) ∧ But (fun _ => False) w3 w'') := by
      intro w' hw'
      rw [hS4]
      exact (psum_any (HKY3.out.but hw' (fun h => h)) (HB3.out.but hw' (fun _ _ _ h => h)) (Bs.nil w') HZL.out (by decide)).mono (fun e w'' h => ⟨h.1, hw'.trans h.2⟩)
    obtain ⟨q, hq⟩ : ∃ q, q = decide (y = 0#8 ∨ h = gzero) := ⟨_, rfl⟩
    have HE1 : Hid (∀ w', (Op.equalIn 10000 22 (.agg S1) (.agg S2)).run Try.prog w' = .ok q w') := by
      intro w'
      rw [hS1, hS2, hq, equal16 _ _ (gsum_len _ _ _) (gsum_len _ _ _) w', hzs, ← HX.out]
      simp only [apart_text HHL.out xs i (by rw [← HN.out]; exact HIN.out) y]
    have HE2 : Hid (∀ w', (Op.equalIn 10000 22 (.agg S3) (.agg S4)).run Try.prog w' = .ok q w') := by
      intro w'
      rw [hS3, hS4, hq, equal16 _ _ (gsum_len _ _ _) (gsum_len _ _ _) w', hzs, ← HX.out]
      simp only [apart_aad HHL.out xs i (by rw [← HN.out]; exact HIN.out) y]
    obtain ⟨Z, hZ⟩ : ∃ Z, Z = (u8s (nts gzero)).toArray := ⟨_, rfl⟩
    have hz : ∀ w : World, (zeroValue 22).run Try.prog w = .ok (.agg Z) w := fun w => by rw [hZ]; exact zeroG w
    have HEH : Hid (∀ w', (Op.equalIn 10000 22 (.agg H) (.agg Z)).run Try.prog w' = .ok (decide (h = gzero)) w') := by
      intro w'
      rw [HH.out, hZ]; exact equal16 _ _ HHL.out gzero_len w'
    have HQ := Hid.mk' hq
    clear hw3 hb3 hzs hS1 hS2 hS3 hS4 hZ hcell hfr hxo hq HBS2 HKY2 HK2 HV2 HT2 HB3 HV3 HKY3
    go_wp2_with fail
    refine Calls.mono (HS1.out w3 (But.refl _ _)) ?_
    rintro e w4 ⟨rfl, hb4⟩
    go_wp2_with fail
    refine Calls.mono (HS2.out w4 hb4) ?_
    rintro e w5 ⟨rfl, hb5⟩
    have e5 := HE1.out w5
    clear hb4
    go_wp2_with fail
    refine Calls.mono (HS3.out w5 hb5) ?_
    rintro e w6 ⟨rfl, hb6⟩
    clear hb5 e5
    go_wp2_with fail
    refine Calls.mono (HS4.out w6 hb6) ?_
    rintro e w7 ⟨rfl, hb7⟩
    have e7 := HE2.out w7
    have HT7 := Hid.mk' (HT3.out.trans hb7)
    have HK7 := Hid.mk' (HK3.out.but hb7 (fun h => h))
    clear hb6
    go_upto_region 9 with fail
    clear e7 hb7
    have eh := HEH.out w7
    by_cases hy0 : y = 0#8
    · have hq1 : q = true := by rw [HQ.out]; simp [hy0]
      have y0 : ((b8 y : Int) == 0) = true := by rw [hy0]; decide
      subst hq1
      clear hy0 eh
      go_wp2_with fail
      refine Calls.mono (gawake_any _) ?_
      rintro e w8 ⟨rfl, hb8⟩
      have HT8 := Hid.mk' (HT7.out.trans hb8)
      clear hb8
      go_wp2
      go_ret
      exact ⟨rfl, HT8.out.below (Nat.le_refl _) (fun _ _ h => h)⟩
    · have hq1 : q = decide (h = gzero) := by rw [HQ.out]; simp [hy0]
      have y0 : ((b8 y : Int) == 0) = false := by
        rw [beq_eq_false_iff_ne]
        intro e
        exact hy0 (b8_inj (by have e2 : (b8 y : Int) = ((b8 0#8 : Nat) : Int) := e; omega))
      rw [← hq1] at eh
      clear hy0 hq1 HQ HE1 HE2 HEH
      cases q
      · go_wp2_with (first
          | (refine wpList_load_u8s_g Try.underlying22 i16g rfl _ rfl g (nts h) HHN.out rfl HK7.out ?_; rw [← HH.out])
          | fail)
        refine Calls.mono (gawake_any _) ?_
        rintro e w8 ⟨rfl, hb8⟩
        have HT8 := Hid.mk' (HT7.out.trans hb8)
        clear hb8 eh
        go_wp2
        go_ret
        exact ⟨rfl, HT8.out.below (Nat.le_refl _) (fun _ _ h => h)⟩
      · go_wp2_with (first
          | (refine wpList_load_u8s_g Try.underlying22 i16g rfl _ rfl g (nts h) HHN.out rfl HK7.out ?_; rw [← HH.out])
          | fail)
        refine Calls.mono (gawake_any _) ?_
        rintro e w8 ⟨rfl, hb8⟩
        have HT8 := Hid.mk' (HT7.out.trans hb8)
        clear hb8 eh
        go_wp2
        go_ret
        exact ⟨rfl, HT8.out.below (Nat.le_refl _) (fun _ _ h => h)⟩
  · by_cases hn0 : n = 0
    · have t0 : ((n : Int) == 0) = true := by simp [hn0]
      clear hn0 hbig
      go_enter Try.func7, Try.ntmps7
      go_wp2_with fail
      rw [← HW0.out]
      refine Calls.mono (gawake_any _) ?_
      rintro e w2 ⟨rfl, hb2⟩
      have HT2 := Hid.mk' (HT0.out.trans hb2)
      clear hb2
      go_wp2
      go_ret
      exact ⟨rfl, HT2.out.below (Nat.le_refl _) (fun _ _ h => h)⟩
    · have t0 : ((n : Int) == 0) = false := by simp; omega
      have t1 : (2000 : Int) < (n : Int) := by omega
      clear hn0 hbig
      go_enter Try.func7, Try.ntmps7
      go_wp2_with fail
      rw [← HW0.out]
      refine Calls.mono (gawake_any _) ?_
      rintro e w2 ⟨rfl, hb2⟩
      have HT2 := Hid.mk' (HT0.out.trans hb2)
      clear hb2
      go_wp2
      go_ret
      exact ⟨rfl, HT2.out.below (Nat.le_refl _) (fun _ _ h => h)⟩

set_option maxRecDepth 100000 in
theorem ghashApart_lifted (os : Os) (started : os.Started) (H : Type) (enc : TypeId × Value → H) :
    ReturnsInHanded {} Try.checked os 7 .any (Rows.ghashApartSpec.pre6 enc Try.prog Try.f7 Rows.ghashApartRow.domain false) (Rows.ghashApartSpec.post enc Try.prog Try.f7 false true false false) := by
  refine returnsInHanded_of_change_sized (C := Try.checked) (by kernel_rfl) started (by kernel_rfl) Try.func7
    (ChangeSpec.witness6 (enc := enc) (C := Try.checked) false ⟨#[], #[.agg #[.int .u8 0, .int .u8 0, .int .u8 0, .int .u8 0, .int .u8 0, .int .u8 0, .int .u8 0, .int .u8 0, .int .u8 0, .int .u8 0, .int .u8 0, .int .u8 0, .int .u8 0, .int .u8 0, .int .u8 0, .int .u8 0], .slice none 0 0, .int .i64 0, .int .u8 0], []⟩ 8 (by kernel_rfl) (by kernel_rfl) (by kernel_rfl) (by kernel_rfl)) ?_
  intro W base args ds gs before hval0 hW hcnd hsz0 _
  have hsz : (DataW.weightsEach Try.prog (Try.f7.params.toList ++ Rows.ghashApartSpec.plain.varTypes Try.prog) (ds ++ gs)).all (· ≤ reachBytes) = true := hsz0
  clear hsz0
  have hval : ∀ (j : Nat) t v, Try.f7.params[j]? = some t → args[j]? = some v → Value.okWide Try.prog W .any base t v := hval0
  have hW' := hW
  obtain ⟨p, q, hA0, hV, rfl, hfz, hnd⟩ := hW
  have hA : DataW.TrodAll enc Try.prog W 0 (fun _ => true) true Try.f7.params.toList args.toList ds p := hA0
  rw [Try.params7] at hA hval hsz
  obtain ⟨v0, vs0, d0, ds0, p0, q0, hargs, rfl, rfl, h0, r0⟩ := trodAll_cons hA
  obtain ⟨v1, vs1, d1, ds1, p1, q1, rfl, rfl, rfl, h1, r1⟩ := trodAll_cons r0
  obtain ⟨v2, vs2, d2, ds2, p2, q2, rfl, rfl, rfl, h2, r2⟩ := trodAll_cons r1
  obtain ⟨v3, vs3, d3, ds3, p3, q3, rfl, rfl, rfl, h3, r3⟩ := trodAll_cons r2
  obtain ⟨rfl, rfl, rfl⟩ := trodAll_nil r3
  obtain rfl : args = #[v0, v1, v2, v3] := by cases args; simp_all
  obtain ⟨rfl, rfl⟩ := trodVars_none hV
  have lt0 : ∀ x ∈ p0, x.block < W.heap.size := by obtain ⟨m, hm⟩ := h0; exact DataW.trod_lt m _ _ _ hm
  obtain ⟨z0, w0⟩ := view_arr Try.underlying22 Try.underlying5 (by kernel_rfl) (by kernel_rfl) (hval 0 22 v0 rfl rfl) h0 lt0 hsz (j := 0) rfl rfl
  have lt1 : ∀ x ∈ p1, x.block < W.heap.size := by obtain ⟨m, hm⟩ := h1; exact DataW.trod_lt m _ _ _ hm
  obtain ⟨z1, w1⟩ := view_bytes Try.underlying27 Try.underlying5 (by kernel_rfl) (by kernel_rfl) (hval 1 27 v1 rfl rfl) h1 lt1 hsz (j := 1) rfl rfl
  obtain ⟨a2, rfl, rfl, rfl, w2⟩ := open_int Try.underlying3 (hval 2 3 v2 rfl rfl) h2
  obtain ⟨a3, rfl, rfl, rfl, w3⟩ := open_int Try.underlying5 (hval 3 5 v3 rfl rfl) h3
  clear hA0 hval0
  refine (ghashApart_walk v0 z0 v1 z1 a2 a3 W w0 w1 w2 w3).mono fun e W' ⟨he, bel⟩ => ?_
  subst he
  exact ⟨_, rfl, _, _, _, [], _, [], hW', trodAll_mk1 (shut_bool Try.underlying4 _), (trodAll_cons_mk (Below.trod (by kernel_rfl) (by kernel_rfl) (of_decide_eq_true (by kernel_rfl)) h0 bel lt0) (trodAll_cons_mk (Below.trod (by kernel_rfl) (by kernel_rfl) (of_decide_eq_true (by kernel_rfl)) h1 bel lt1) (trodAll_cons_mk (shut_int Try.underlying3 w2) (trodAll_cons_mk (shut_int Try.underlying5 w3) trodAll_mk0)))), rfl, bel.frame _, fun h => by cases h⟩

theorem ghashApart_holds : Rows.GhashApartSaid :=
  OpenClaim.holds_of_wide 7 Try.f7 rfl rfl rfl rfl rfl rfl rfl ⟨rfl, rfl, rfl, rfl, rfl⟩ rfl rfl rfl rfl rfl (by kernel_rfl) Try.func7 (by kernel_rfl)
    (of_decide_eq_true (by kernel_rfl)) (by unfold Func.isWrapper; first | (rw [if_pos (by decide +kernel)]; kernel_rfl) | (rw [if_neg (by decide +kernel)]; exact ⟨rfl, rfl⟩))
    (fun os started H enc _ => ghashApart_lifted os started H enc)
#print axioms ghashApart_holds

end Go.Proofs.Ytpdkdeebdhdhgaa
