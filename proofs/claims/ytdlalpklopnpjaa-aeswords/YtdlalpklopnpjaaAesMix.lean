/- The program's mixedBoxes and unmixed. -/
import Derived.Test.YtdlalpklopnpjaaAesBox
namespace Go.Proofs.Ytdlalpklopnpjaa
open Go.RowKit

/-- A column by factors. -/
def colMix (f l : List B8) : List B8 := [mixSum f l 0 4, mixSum f l 1 4, mixSum f l 2 4, mixSum f l 3 4]
theorem colMix_len (f l : List B8) : (colMix f l).length = 4 := rfl
theorem col_num4 (s : B8) : col s = num4 (tm 2#8 s) s s (tm 3#8 s) := rfl
theorem tm1 (s : B8) : tm 1#8 s = s := one_tm s
theorem mix_next (l : List B8) (k : Nat) (h : k < 4) :
    bits .xor .u32 (num4 (mixSum fwd l 0 k) (mixSum fwd l 1 k) (mixSum fwd l 2 k) (mixSum fwd l 3 k) : Int) (rot4 (tm 2#8 (at8 l k)) (at8 l k) (at8 l k) (tm 3#8 (at8 l k)) k : Int)
      = (num4 (mixSum fwd l 0 (k + 1)) (mixSum fwd l 1 (k + 1)) (mixSum fwd l 2 (k + 1)) (mixSum fwd l 3 (k + 1)) : Int) := by
  match k, h with
  | 0, _ => refine (xor4n _ _ _ _ (tm 2#8 (at8 l 0)) (at8 l 0) (at8 l 0) (tm 3#8 (at8 l 0))).trans ?_; simp [mixSum, fwd, at8, tm1]
  | 1, _ => refine (xor4n _ _ _ _ (tm 3#8 (at8 l 1)) (tm 2#8 (at8 l 1)) (at8 l 1) (at8 l 1)).trans ?_; simp [mixSum, fwd, at8, tm1]
  | 2, _ => refine (xor4n _ _ _ _ (at8 l 2) (tm 3#8 (at8 l 2)) (tm 2#8 (at8 l 2)) (at8 l 2)).trans ?_; simp [mixSum, fwd, at8, tm1]
  | 3, _ => refine (xor4n _ _ _ _ (at8 l 3) (at8 l 3) (tm 3#8 (at8 l 3)) (tm 2#8 (at8 l 3))).trans ?_; simp [mixSum, fwd, at8, tm1]
theorem rot4_lt (a b c d : B8) (i : Nat) : rot4 a b c d i < 4294967296 := by
  unfold rot4; split <;> exact num4_lt _ _ _ _
theorem map4_at (f : B8 → B8) (l : List B8) (k : Nat) (h : k < 4) : at8 (map4 f l) k = f (at8 l k) := by
  match k, h with
  | 0, _ => rfl
  | 1, _ => rfl
  | 2, _ => rfl
  | 3, _ => rfl
set_option maxRecDepth 100000 in
set_option maxHeartbeats 1000000 in
theorem mixedBoxes_any {w : World} {gb : Nat} {l : List B8} (hb : Bxs w gb) (hl : l.length = 4) :
    Calls Try.prog 29 #[.agg (u8s (nts l)).toArray, .pointer (some ⟨gb, 0, none⟩)] w fun e w' => e = .returned (.agg (u8s (nts (colMix fwd (map4 bx l)))).toArray) ∧ But (fun _ => False) w w' := by
  have hz := zero4
  obtain ⟨Z, hZ⟩ : ∃ Z, Z = (u8s (List.replicate 4 0)).toArray := ⟨_, rfl⟩
  rw [← hZ] at hz
  obtain ⟨C, hC⟩ : ∃ C, C = (u8s (nts l)).toArray := ⟨_, rfl⟩
  rw [← hC]
  have HZ := Hid.mk' hZ
  have HC := Hid.mk' hC
  have HB := Hid.mk' hb
  clear hZ hC hb
  obtain ⟨m, hm⟩ : ∃ m, m = map4 bx l := ⟨_, rfl⟩
  rw [← hm]
  have HM := Hid.mk' hm
  clear hm
  go_enter Try.func29, Try.ntmps29
  go_wp2
  obtain ⟨g, hg⟩ : ∃ g, g = w.heap.size := ⟨_, rfl⟩
  have hI : ColI w g l ((w.alloc (.cells C 55)).alloc (.cells Z 55)) := by
    rw [HC.out, HZ.out]
    refine ⟨(Blk.new hg.symm).but ((But.refl (fun _ => False) _).alloc _) (fun h => h), Blk.new (by simp [hg]), ((But.refl _ w).alloc _).alloc _⟩
  rw [← hg]
  generalize ((w.alloc (.cells C 55)).alloc (.cells Z 55)) = W0 at *
  have HI := Hid.mk' hI
  have HG := Hid.mk' hg
  clear hI hg hz HZ HC
  go_loopw [5, 7] (fun s i wr => ∃ k : Nat, k ≤ 4 ∧ i = .int .i64 k ∧ s = .int .u32 (num4 (mixSum fwd m 0 k) (mixSum fwd m 1 k) (mixSum fwd m 2 k) (mixSum fwd m 3 k) : Nat) ∧ wr = W0) (fun _ i _ => 4 - (intOf i).toNat)
  case atStart => exact ⟨0, by decide, rfl, by show _ = Value.int .u32 ((num4 0 0 0 0 : Nat) : Int); rw [show num4 0 0 0 0 = 0 by unfold num4 b8; simp]; rfl, rfl⟩
  case round =>
    obtain ⟨k, hk, rfl, rfl, rfl⟩ := hrel
    by_cases hlt : k < 4
    · have hki : (k : Int) < 4 := by omega
      have c1 := blk_nts HI.out.src k (by rw [hl]; exact hlt)
      have HB2 := Hid.mk' (HB.out.but HI.out.but (fun h => h))
      obtain ⟨z, hz⟩ : ∃ z : Int, z = -8 * (k : Int) := ⟨_, rfl⟩
      have hn := mix_next m k hlt
      have hme : at8 m k = bx (at8 l k) := by rw [HM.out]; exact map4_at bx l k hlt
      rw [hme] at hn
      obtain ⟨x, hx⟩ : ∃ x, x = at8 l k := ⟨_, rfl⟩
      rw [← hx] at c1 hn
      obtain ⟨R, hR⟩ : ∃ R, R = rot4 (tm 2#8 (bx x)) (bx x) (bx x) (tm 3#8 (bx x)) k := ⟨_, rfl⟩
      rw [← hR] at hn
      have hRl : R < 4294967296 := by rw [hR]; exact rot4_lt _ _ _ _ _
      have HROT := Hid.mk' (rot_any (tm 2#8 (bx x)) (bx x) (bx x) (tm 3#8 (bx x)) k hlt z hz wr)
      rw [← hR, ← col_num4] at HROT
      have HZ := Hid.mk' hz
      have hw1 : IntKind.i64.wrap (-8 * (k : Int)) = z := by rw [hz]; simp [IntKind.wrap, IntKind.bits, IntKind.signed]; omega
      obtain ⟨S, hS⟩ : ∃ S, S = num4 (mixSum fwd m 0 k) (mixSum fwd m 1 k) (mixSum fwd m 2 k) (mixSum fwd m 3 k) := ⟨_, rfl⟩
      rw [← hS] at hn ⊢
      have hSl : S < 4294967296 := by rw [hS]; exact num4_lt _ _ _ _
      obtain ⟨S2, hS2⟩ : ∃ S, S = num4 (mixSum fwd m 0 (k + 1)) (mixSum fwd m 1 (k + 1)) (mixSum fwd m 2 (k + 1)) (mixSum fwd m 3 (k + 1)) := ⟨_, rfl⟩
      rw [← hS2] at hn
      have HS2 := Hid.mk' hS2
      clear hx hR hS hS2 hz hme
      go_wp2_with (first
        | (go_at_call 48; refine Calls.mono (mix_any HB2.out x) ?_; rintro e w1 ⟨rfl, hw⟩; have hw' := hw.symm; subst hw')
        | (go_at_call 47; refine Calls.mono HROT.out ?_; rintro e w1 ⟨rfl, hw⟩; have hw' := hw.symm; subst hw'))
      refine ⟨⟨k + 1, by omega, by go_num, by rw [HS2.out], trivial⟩, by simp [intOf]; omega⟩
    · have hk4 : k = 4 := by omega
      subst hk4
      have HCO := Hid.mk' (columnOf_any (mixSum fwd m 0 4) (mixSum fwd m 1 4) (mixSum fwd m 2 4) (mixSum fwd m 3 4) wr)
      obtain ⟨M, hM⟩ : ∃ M, M = colMix fwd m := ⟨_, rfl⟩
      have HML : Hid ((nts M).length = 4) := by show _ = _; rw [hM, nts_len]; rfl
      have HM2 := Hid.mk' hM
      obtain ⟨V, hV⟩ : ∃ V, V = (u8s (nts M)).toArray := ⟨_, rfl⟩
      have hVV : (u8s (nts [mixSum fwd m 0 4, mixSum fwd m 1 4, mixSum fwd m 2 4, mixSum fwd m 3 4])).toArray = V := by rw [hV, hM]; rfl
      have HV := Hid.mk' hV
      unfold colV at HCO
      rw [hVV] at HCO
      generalize num4 (mixSum fwd m 0 4) (mixSum fwd m 1 4) (mixSum fwd m 2 4) (mixSum fwd m 3 4) = S at *
      clear hM hV hVV
      go_wp2_with fail
      refine Calls.mono HCO.out ?_
      rintro e w1 ⟨rfl, hbut⟩
      have HI2 := Hid.mk' (HI.out.res.but hbut (fun h => h))
      have HBT := Hid.mk' hbut
      clear hbut HCO
      go_wp2_with (refine wpList_store_u8s i55 rfl _ _ rfl (g + 1) (nts M) HML.out rfl (by exact congrArg Value.agg HV.out) _ (by simp [u8s]) HI2.out ?_; intro w2 hb2 hbut2)
      refine bodyPost_ret (results_cell_row rfl _ _ (g + 1) _ _ _ _ rfl hb2 Try.underlying55 rfl (by rw [i55]; simp [u8s, HML.out])) rfl ⟨by rw [HM2.out], ?_⟩
      exact (HI.out.but.trans HBT.out).then hbut2 (fun i hi e => by have := HG.out; omega)
/-- A column mixed so many times. -/
def mixN (l : List B8) : Nat → List B8
  | 0 => l
  | k + 1 => colMix fwd (mixN l k)
theorem mixN_len {l : List B8} (h : l.length = 4) (k : Nat) : (mixN l k).length = 4 := by
  cases k
  · exact h
  · rfl
theorem map4_back {l : List B8} (h : l.length = 4) : map4 bx (map4 bk l) = l := by
  match l, h with
  | [a, b, c, d], _ => simp [map4, at8, bx_bk]
set_option maxRecDepth 100000 in
set_option maxHeartbeats 1000000 in
theorem unmixed_any {w : World} {gb : Nat} {l : List B8} (hb : Bxs w gb) (hl : l.length = 4) :
    Calls Try.prog 36 #[.agg (u8s (nts l)).toArray, .pointer (some ⟨gb, 0, none⟩)] w fun e w' => e = .returned (.agg (u8s (nts (mixN l 3))).toArray) ∧ But (fun _ => False) w w' := by
  have hz := zero4
  obtain ⟨Z, hZ⟩ : ∃ Z, Z = (u8s (List.replicate 4 0)).toArray := ⟨_, rfl⟩
  rw [← hZ] at hz
  obtain ⟨C, hC⟩ : ∃ C, C = (u8s (nts l)).toArray := ⟨_, rfl⟩
  rw [← hC]
  have HZ := Hid.mk' hZ
  have HC := Hid.mk' hC
  have HB := Hid.mk' hb
  clear hZ hC hb
  go_enter Try.func36, Try.ntmps36
  go_wp2
  obtain ⟨g, hg⟩ : ∃ g, g = w.heap.size := ⟨_, rfl⟩
  have hI : ColI w g (mixN l 0) ((w.alloc (.cells C 55)).alloc (.cells Z 55)) := by
    rw [HC.out, HZ.out]
    refine ⟨(Blk.new hg.symm).but ((But.refl (fun _ => False) _).alloc _) (fun h => h), Blk.new (by simp [hg]), ((But.refl _ w).alloc _).alloc _⟩
  rw [← hg]
  generalize ((w.alloc (.cells C 55)).alloc (.cells Z 55)) = W0 at *
  have HI := Hid.mk' hI
  have HG := Hid.mk' hg
  clear hI hg hz HZ HC
  go_loopw [5] (fun i wr => ∃ k : Nat, k ≤ 3 ∧ i = .int .i64 k ∧ ColI w g (mixN l k) wr) (fun i _ => 3 - (intOf i).toNat)
  case atStart => exact ⟨0, by decide, rfl, HI.out⟩
  case round =>
    obtain ⟨k, hk, rfl, hI⟩ := hrel
    obtain ⟨M, hM⟩ : ∃ M, M = mixN l k := ⟨_, rfl⟩
    have hML4 : M.length = 4 := by rw [hM]; exact mixN_len hl k
    have HML4 := Hid.mk' hML4
    have HML : Hid ((nts M).length = 4) := by show _ = _; rw [nts_len]; exact hML4
    rw [← hM] at hI
    have HM := Hid.mk' hM
    have HI2 := Hid.mk' hI
    clear hM hI HI hML4
    by_cases hlt : k < 3
    · have hki : (k : Int) < 3 := by omega
      have HB2 := Hid.mk' (HB.out.but HI2.out.but (fun h => h))
      go_wp2_with (first
        | (refine wpList_load_u8s Try.underlying55 i55 rfl _ rfl g (nts M) HML.out rfl HI2.out.src ?_)
        | fail)
      refine Calls.mono (cunboxed_any HB2.out HML4.out) ?_
      rintro e w1 ⟨rfl, hb1⟩
      have HB3 := Hid.mk' (HB2.out.but hb1 (fun h => h))
      have HT1 := Hid.mk' hb1
      clear hb1 HB2
      obtain ⟨U, hU⟩ : ∃ U, U = map4 bk M := ⟨_, rfl⟩
      rw [← hU]
      have HU := Hid.mk' hU
      clear hU
      go_wp2_with fail
      refine Calls.mono (mixedBoxes_any HB3.out (by rw [HU.out]; rfl)) ?_
      rintro e w2 ⟨rfl, hb2⟩
      rw [HU.out, map4_back HML4.out]
      have HT2 := Hid.mk' (HT1.out.trans hb2)
      obtain ⟨N, hN⟩ : ∃ N, N = colMix fwd M := ⟨_, rfl⟩
      have HNL : Hid ((nts N).length = 4) := by show _ = _; rw [hN, nts_len]; rfl
      rw [← hN]
      have HN := Hid.mk' hN
      clear hN hb2 HT1 HB3
      have HS := Hid.mk' (HI2.out.src.but HT2.out (fun h => h))
      go_wp2_with (refine wpList_store_u8s i55 rfl _ _ rfl g (nts N) HNL.out rfl (by exact rfl) _ (by unfold u8s; rw [List.length_map]; exact HML.out) HS.out ?_; intro w3 hb3 hbut3)
      refine ⟨⟨k + 1, by omega, by go_num, ?_⟩, by simp [intOf]; omega⟩
      have e : mixN l (k + 1) = N := by rw [HN.out, HM.out]; rfl
      rw [e]
      exact ⟨hb3, (HI2.out.res.but HT2.out (fun h => h)).but hbut3 (show ¬ (g + 1 = g) by omega), (HI2.out.but.trans HT2.out).then hbut3 (fun i hi e => by have := HG.out; omega)⟩
    · have hk3 : k = 3 := by omega
      subst hk3
      go_wp2_with (first
        | (refine wpList_load_u8s Try.underlying55 i55 rfl _ rfl g (nts M) HML.out rfl HI2.out.src ?_)
        | (refine wpList_store_u8s i55 rfl _ _ rfl (g + 1) (nts M) HML.out rfl (by exact rfl) _ (by simp [u8s]) HI2.out.res ?_; intro w2 hb2 hbut2))
      refine bodyPost_ret (results_cell_row rfl _ _ (g + 1) _ _ _ _ rfl hb2 Try.underlying55 rfl (by rw [i55]; simp [u8s, HML.out])) rfl ⟨by rw [HM.out], ?_⟩
      exact HI2.out.but.then hbut2 (fun i hi e => by have := HG.out; omega)
end Go.Proofs.Ytdlalpklopnpjaa
