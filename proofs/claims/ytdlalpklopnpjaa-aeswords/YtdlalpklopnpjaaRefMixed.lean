/- The reference's mixed and add. -/
import Derived.Test.YtdlalpklopnpjaaAesMath
import Derived.Test.YtdlalpklopnpjaaFieldRefBox
import Derived.Test.YtdlalpklopnpjaaLasts
namespace Go.Proofs.Ytdlalpklopnpjaa
open Go.RowKit

theorem wrap_mid (n : Int) (h1 : -9223372036854775808 ≤ n) (h2 : n < 9223372036854775808) : IntKind.i64.wrap n = n := by
  simp [IntKind.wrap, IntKind.bits, IntKind.signed]; omega
theorem i16s : (Try.prog.info? 23).map (·.size) = some 16 := by kernel_rfl
theorem i4s : (Try.prog.info? 41).map (·.size) = some 4 := by kernel_rfl
/-- The column's bytes below m full, that at m of j products, the others nothing. -/
def partMix (f b : List B8) (m j : Nat) : List B8 := mk16 fun i => if i < m then mixSum f b i 4 else if i = m then mixSum f b i j else 0
theorem partMix_len (f b : List B8) (m j : Nat) : (partMix f b m j).length = 16 := mk16_len _
theorem partMix_at (f b : List B8) (m j : Nat) (h : m < 16) : at8 (partMix f b m j) m = mixSum f b m j := by
  unfold partMix; rw [mk16_at _ _ h]; simp
theorem partMix_next (f b : List B8) (m : Nat) : partMix f b m 4 = partMix f b (m + 1) 0 := by
  refine at8_ext (partMix_len _ _ _ _) (partMix_len _ _ _ _) (fun i hi => ?_)
  unfold partMix
  rw [mk16_at _ i hi, mk16_at _ i hi]
  by_cases h1 : i < m
  · rw [if_pos h1, if_pos (by omega)]
  · by_cases h2 : i = m
    · rw [if_neg h1, if_pos h2, if_pos (by omega)]
    · rw [if_neg h1, if_neg h2, if_neg (by omega)]
      by_cases h3 : i = m + 1
      · rw [if_pos h3]; rfl
      · rw [if_neg h3]
theorem partMix_zero (f b : List B8) : partMix f b 0 0 = List.replicate 16 0 := by
  refine at8_ext (partMix_len _ _ _ _) (by simp) (fun i hi => ?_)
  unfold partMix
  rw [mk16_at _ i hi, if_neg (Nat.not_lt_zero _)]
  have e : at8 (List.replicate 16 (0 : B8)) i = 0 := by unfold at8 List.getD; rw [List.getElem?_replicate, if_pos hi]; rfl
  rw [e]
  by_cases h : i = 0
  · rw [if_pos h]; rfl
  · rw [if_neg h]
theorem partMix_all (f b : List B8) : partMix f b 16 0 = mixBy f b := by
  refine at8_ext (partMix_len _ _ _ _) (mixBy_len _ _) (fun i hi => ?_)
  unfold partMix mixBy
  rw [mk16_at _ i hi, mk16_at _ i hi, if_pos hi]
theorem partMix_set (f b : List B8) (m j : Nat) (h : m < 16) : (partMix f b m j).set m (mixSum f b m j ^^^ tm (at8 f ((j + 4 - m % 4) % 4)) (at8 b (4 * (m / 4) + j))) = partMix f b m (j + 1) := by
  refine at8_ext (by rw [List.length_set]; exact partMix_len _ _ _ _) (partMix_len _ _ _ _) (fun i hi => ?_)
  rw [at8_set _ _ _ _ (by rw [partMix_len]; exact h)]
  unfold partMix
  rw [mk16_at _ i hi, mk16_at _ i hi]
  by_cases h2 : i = m
  · subst h2
    rw [if_pos rfl, if_neg (Nat.lt_irrefl _), if_pos rfl]; rfl
  · rw [if_neg h2, if_neg h2, if_neg h2]
/-- What memory is amid mixed. -/
structure MixI (w : World) (g : Nat) (f b : List B8) (m j : Nat) (wr : World) : Prop where
  src : Blk wr g 23 (u8s (nts b))
  fac : Blk wr (g + 1) 41 (u8s (nts f))
  res : Blk wr (g + 2) 23 (u8s (List.replicate 16 0))
  out : Blk wr (g + 3) 23 (u8s (nts (partMix f b m j)))
  but : But (fun _ => False) w wr
theorem MixI.next {w wr : World} {g m : Nat} {f b : List B8} (h : MixI w g f b m 4 wr) : MixI w g f b (m + 1) 0 wr :=
  ⟨h.src, h.fac, h.res, by rw [← partMix_next]; exact h.out, h.but⟩
set_option maxRecDepth 100000 in
set_option maxHeartbeats 1000000 in
theorem mixed_any {w : World} {b f : List B8} (hb : b.length = 16) (hf : f.length = 4) :
    Calls Try.prog 33 #[.agg (u8s (nts b)).toArray, .agg (u8s (nts f)).toArray] w fun e w' => e = .returned (.agg (u8s (nts (mixBy f b))).toArray) ∧ But (fun _ => False) w w' := by
  have hz : ∀ w : World, (zeroValue 23).run Try.prog w = .ok (.agg (u8s (List.replicate 16 0)).toArray) w := fun _ => by kernel_rfl
  obtain ⟨Z, hZ⟩ : ∃ Z, Z = (u8s (List.replicate 16 0)).toArray := ⟨_, rfl⟩
  rw [← hZ] at hz
  obtain ⟨C, hC⟩ : ∃ C, C = (u8s (nts b)).toArray := ⟨_, rfl⟩
  obtain ⟨F, hF⟩ : ∃ F, F = (u8s (nts f)).toArray := ⟨_, rfl⟩
  rw [← hC, ← hF]
  have HZ := Hid.mk' hZ
  have HC := Hid.mk' hC
  have HF := Hid.mk' hF
  clear hZ hC hF
  go_enter Try.func33, Try.ntmps33
  go_wp2
  obtain ⟨g, hg⟩ : ∃ g, g = w.heap.size := ⟨_, rfl⟩
  have hI : MixI w g f b 0 0 ((((w.alloc (.cells C 23)).alloc (.cells F 41)).alloc (.cells Z 23)).alloc (.cells Z 23)) := by
    rw [HC.out, HF.out, HZ.out]
    have al : ∀ (x : World) (o : Obj), But (fun _ => False) x (x.alloc o) := fun x o => (But.refl _ x).alloc o
    refine ⟨?_, ?_, ?_, ?_, (((((But.refl _ w).alloc _).alloc _).alloc _).alloc _)⟩
    · exact (((Blk.new hg.symm).but (al _ _) (fun h => h)).but (al _ _) (fun h => h)).but (al _ _) (fun h => h)
    · exact ((Blk.new (by simp [hg])).but (al _ _) (fun h => h)).but (al _ _) (fun h => h)
    · exact (Blk.new (by simp [hg])).but (al _ _) (fun h => h)
    · rw [partMix_zero]; exact Blk.new (by simp [hg])
  rw [← hg, show g + 1 + 1 + 1 = g + 3 from rfl, show g + 1 + 1 = g + 2 from rfl]
  generalize ((((w.alloc (.cells C 23)).alloc (.cells F 41)).alloc (.cells Z 23)).alloc (.cells Z 23)) = W0 at *
  have HI := Hid.mk' hI
  have HG := Hid.mk' hg
  clear hI hg hz HZ HC HF
  go_loopw [6] (fun i wr => ∃ c : Nat, c ≤ 4 ∧ i = .int .i64 c ∧ MixI w g f b (4 * c) 0 wr) (fun i _ => 4 - (intOf i).toNat)
  case atStart => exact ⟨0, by decide, rfl, HI.out⟩
  case round =>
    obtain ⟨c, hc, rfl, hI⟩ := hrel
    by_cases hlt : c < 4
    · have HI := Hid.mk' hI
      clear hI
      have hci : (c : Int) < 4 := by omega
      obtain ⟨wo, hwo⟩ : ∃ wo, wo = wr := ⟨_, rfl⟩
      subst hwo
      go_wp2
      go_loopw [7] (fun i wr => ∃ r : Nat, r ≤ 4 ∧ i = .int .i64 r ∧ MixI w g f b (4 * c + r) 0 wr) (fun i _ => 4 - (intOf i).toNat)
      case atStart => exact ⟨0, by decide, rfl, HI.out⟩
      case round =>
        obtain ⟨r, hr, rfl, hI2⟩ := hrel
        by_cases hlt2 : r < 4
        · have HI2 := Hid.mk' hI2
          clear hI2 HI
          have hri : (r : Int) < 4 := by omega
          obtain ⟨wp, hwp⟩ : ∃ wp, wp = wr := ⟨_, rfl⟩
          subst hwp
          go_wp2
          go_loopw [8] (fun i wr => ∃ j : Nat, j ≤ 4 ∧ i = .int .i64 j ∧ MixI w g f b (4 * c + r) j wr) (fun i _ => 4 - (intOf i).toNat)
          case atStart => exact ⟨0, by decide, rfl, HI2.out⟩
          case round =>
            obtain ⟨j, hj, rfl, hI3⟩ := hrel
            by_cases hlt3 : j < 4
            · have hji : (j : Int) < 4 := by omega
              have HI3 := Hid.mk' hI3
              clear hI3 HI2
              obtain ⟨q, hq⟩ : ∃ q, q = 4 * c := ⟨_, rfl⟩
              obtain ⟨m, hm⟩ : ∃ m, m = q + r := ⟨_, rfl⟩
              obtain ⟨p, hp⟩ : ∃ p, p = q + j := ⟨_, rfl⟩
              obtain ⟨d, hd⟩ : ∃ d : Int, d = (j : Int) - r := ⟨_, rfl⟩
              obtain ⟨e, he⟩ : ∃ e : Nat, (e : Int) = d + 4 := ⟨j + 4 - r, by omega⟩
              obtain ⟨t, ht⟩ : ∃ t, t = e % 4 := ⟨_, rfl⟩
              have w1 : IntKind.i64.wrap (4 * (c : Int)) = (q : Int) := by rw [wrap_mid _ (by omega) (by omega)]; omega
              have w2 : IntKind.i64.wrap ((q : Int) + (r : Int)) = (m : Int) := by rw [wrap_mid _ (by omega) (by omega)]; omega
              have w3 : IntKind.i64.wrap ((j : Int) - (r : Int)) = d := by rw [wrap_mid _ (by omega) (by omega)]; omega
              have w4 : IntKind.i64.wrap (d + 4) = (e : Int) := by rw [wrap_mid _ (by omega) (by omega)]; omega
              have w5 : Int.tmod (e : Int) 4 = (t : Int) := by rw [Int.tmod_eq_emod_of_nonneg (by omega)]; omega
              have w6 : IntKind.i64.wrap ((q : Int) + (j : Int)) = (p : Int) := by rw [wrap_mid _ (by omega) (by omega)]; omega
              have hm16 : m < 16 := by omega
              have ht4 : t < 4 := by omega
              have hp16 : p < 16 := by omega
              have b1 : (m : Int) < 16 := by omega
              have b2 : (t : Int) < 4 := by omega
              have b3 : (p : Int) < 16 := by omega
              have HME : Hid (4 * c + r = m) := by show _ = _; omega
              have HX : Hid (mixSum f b m j ^^^ tm (at8 f t) (at8 b p) = mixSum f b m j ^^^ tm (at8 f ((j + 4 - m % 4) % 4)) (at8 b (4 * (m / 4) + j))) := by
                show _ = _
                rw [show (j + 4 - m % 4) % 4 = t by omega, show 4 * (m / 4) + j = p by omega]
              rw [HME.out] at HI3
              have c1 := blk_nts HI3.out.out m (by rw [partMix_len]; exact hm16)
              rw [partMix_at f b m j hm16] at c1
              have c2 := blk_nts HI3.out.fac t (by rw [hf]; exact ht4)
              have c3 := blk_nts HI3.out.src p (by rw [hb]; exact hp16)
              have hfr := HI3.out.out.free m
              have hxor := xor_b8 (mixSum f b m j) (tm (at8 f t) (at8 b p))
              clear hq hm hp hd he ht
              generalize hX : mixSum f b m j = X at *
              generalize hY : at8 f t = Y at *
              generalize hV : at8 b p = V at *
              have HXX := Hid.mk' hX
              clear hX hY hV
              go_wp2
              refine region_ends (l := [_, _, _, _, _, _, _, _, _, _, _, _, _, _, _, _, _, _, _, _, _, _, _, _, _, _]) (o := _) (by kernel_rfl) (by kernel_rfl) (by kernel_rfl) rfl (by kernel_rfl) (by kernel_rfl) ?_
              repeat (quiet_step ((go_at_call 46; exact Calls.quiet_of_same (rtimes_any _ _ _))))
              refine wpQuiet_nil ?_
              intro _ hw'
              obtain ⟨nq, hw''⟩ := hw'
              subst hw''
              go_wp2
              refine ⟨⟨j + 1, by omega, by go_num, ?_⟩, by simp [intOf]; omega⟩
              rw [HME.out]
              have h := HI3.out
              have hs : But (· = g + 3) wr (wr.setCell ⟨g + 3, m, none⟩ (.int .u8 (b8 (X ^^^ tm Y V) : Nat))) := (But.refl (· = g + 3) wr).setCell (p := ⟨g + 3, m, none⟩) (fun _ => rfl) _
              have hs2 := hs.drewN (n := nq)
              refine ⟨h.src.but hs2 (show ¬ (g = g + 3) by omega), h.fac.but hs2 (show ¬ (g + 1 = g + 3) by omega), h.res.but hs2 (show ¬ (g + 2 = g + 3) by omega), ?_, h.but.then hs2 (fun i hi e => by have := HG.out; omega)⟩
              rw [← partMix_set f b m j hm16, HXX.out, ← HX.out]
              exact blk_nts_set h.out m _
            · have hj4 : j = 4 := by omega
              subst hj4
              have HI4 := Hid.mk' hI3
              clear hI3 HI2
              go_wp2
              refine ⟨⟨r + 1, by omega, by go_num, ?_⟩, by simp [intOf]; omega⟩
              have h := HI4.out
              rw [← Nat.add_assoc]
              exact h.next
        · have hr4 : r = 4 := by omega
          subst hr4
          have HI4 := Hid.mk' hI2
          clear hI2 HI
          go_wp2
          refine ⟨⟨c + 1, by omega, by go_num, ?_⟩, by simp [intOf]; omega⟩
          rw [Nat.mul_add]
          exact HI4.out
    · have hc4 : c = 4 := by omega
      subst hc4
      obtain ⟨h0, h1, h2, h3, hbt⟩ := hI
      rw [show 4 * 4 = 16 from rfl, partMix_all] at h3
      have H2 := Hid.mk' h2
      have H3 := Hid.mk' h3
      have HBT := Hid.mk' hbt
      clear h0 h1 h2 h3 hbt HI
      obtain ⟨M, hM⟩ : ∃ M, M = mixBy f b := ⟨_, rfl⟩
      have HML : Hid ((nts M).length = 16) := by show _ = _; rw [hM, nts_len, mixBy_len]
      rw [← hM] at H3
      have HM := Hid.mk' hM
      clear hM
      go_wp2_with (first
        | (refine wpList_load_u8s Try.underlying23 i16s rfl _ rfl (g + 3) (nts M) HML.out rfl H3.out ?_)
        | (refine wpList_store_u8s i16s rfl _ _ rfl (g + 2) (nts M) HML.out rfl (by exact rfl) _ (by simp [u8s]) H2.out ?_; intro w2 hb2 hbut2))
      refine bodyPost_ret (results_cell_row rfl _ _ (g + 2) _ _ _ _ rfl hb2 Try.underlying23 rfl (by rw [i16s]; simp [u8s, HML.out])) rfl ⟨by rw [HM.out], ?_⟩
      exact HBT.out.then hbut2 (fun i hi e => by have := HG.out; omega)
end Go.Proofs.Ytdlalpklopnpjaa
