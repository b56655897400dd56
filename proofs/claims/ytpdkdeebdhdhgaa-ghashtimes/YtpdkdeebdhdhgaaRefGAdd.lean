/- The reference's Add of layer 7. -/
import Derived.Test.YtpdkdeebdhdhgaaRefGTimes
namespace Go.Proofs.Ytpdkdeebdhdhgaa
open Go.RowKit

def partG (a b : List B8) (k : Nat) : List B8 := mk16 fun i => if i < k then at8 a i ^^^ at8 b i else at8 a i
theorem partG_len (a b : List B8) (k : Nat) : (partG a b k).length = 16 := mk16_len _
theorem partG_zero (a b : List B8) (ha : a.length = 16) : partG a b 0 = a := by
  refine at8_ext (partG_len _ _ _) ha (fun i hi => ?_)
  unfold partG; rw [mk16_at _ i hi, if_neg (Nat.not_lt_zero _)]
theorem partG_all (a b : List B8) : partG a b 16 = gadd a b := by
  refine at8_ext (partG_len _ _ _) (gadd_len _ _) (fun i hi => ?_)
  unfold partG gadd; rw [mk16_at _ i hi, mk16_at _ i hi, if_pos hi]
theorem partG_at (a b : List B8) (k : Nat) (h : k < 16) : at8 (partG a b k) k = at8 a k := by
  unfold partG; rw [mk16_at _ k h, if_neg (Nat.lt_irrefl _)]
theorem partG_set (a b : List B8) (k : Nat) (h : k < 16) : (partG a b k).set k (at8 a k ^^^ at8 b k) = partG a b (k + 1) := by
  refine at8_ext (by rw [List.length_set]; exact partG_len _ _ _) (partG_len _ _ _) (fun i hi => ?_)
  rw [at8_set _ _ _ _ (by rw [partG_len]; exact h)]
  unfold partG
  rw [mk16_at _ i hi, mk16_at _ i hi]
  by_cases h2 : i = k
  · subst h2; rw [if_pos rfl, if_pos (Nat.lt_succ_self _)]
  · rw [if_neg h2]
    by_cases h3 : i < k
    · rw [if_pos h3, if_pos (by omega)]
    · rw [if_neg h3, if_neg (by omega)]
structure GaI (w : World) (g : Nat) (a b : List B8) (k : Nat) (wr : World) : Prop where
  out : Blk wr g 22 (u8s (nts (partG a b k)))
  sb : Blk wr (g + 1) 22 (u8s (nts b))
  res : Blk wr (g + 2) 22 (u8s (List.replicate 16 0))
  but : But (fun _ => False) w wr
set_option maxRecDepth 100000 in
set_option maxHeartbeats 1000000 in
theorem rgadd_any {w : World} {a b : List B8} (ha : a.length = 16) (hb : b.length = 16) :
    Calls Try.prog 12 #[.agg (u8s (nts a)).toArray, .agg (u8s (nts b)).toArray] w fun e w' => e = .returned (.agg (u8s (nts (gadd a b))).toArray) ∧ But (fun _ => False) w w' := by
  have hz : ∀ w : World, (zeroValue 22).run Try.prog w = .ok (.agg (u8s (List.replicate 16 0)).toArray) w := fun _ => by kernel_rfl
  obtain ⟨Z, hZ⟩ : ∃ Z, Z = (u8s (List.replicate 16 0)).toArray := ⟨_, rfl⟩
  rw [← hZ] at hz
  obtain ⟨C, hC⟩ : ∃ C, C = (u8s (nts a)).toArray := ⟨_, rfl⟩
  obtain ⟨F, hF⟩ : ∃ F, F = (u8s (nts b)).toArray := ⟨_, rfl⟩
  rw [← hC, ← hF]
  have HZ := Hid.mk' hZ
  have HC := Hid.mk' hC
  have HF := Hid.mk' hF
  clear hZ hC hF
  go_enter Try.func12, Try.ntmps12
  go_wp2
  obtain ⟨g, hg⟩ : ∃ g, g = w.heap.size := ⟨_, rfl⟩
  have hI : GaI w g a b 0 (((w.alloc (.cells C 22)).alloc (.cells F 22)).alloc (.cells Z 22)) := by
    rw [HC.out, HF.out, HZ.out]
    have al : ∀ (x : World) (o : Obj), But (fun _ => False) x (x.alloc o) := fun x o => (But.refl _ x).alloc o
    refine ⟨?_, ?_, ?_, ((((But.refl _ w).alloc _).alloc _).alloc _)⟩
    · rw [partG_zero a b ha]; exact ((Blk.new hg.symm).but (al _ _) (fun h => h)).but (al _ _) (fun h => h)
    · exact (Blk.new (by simp [hg])).but (al _ _) (fun h => h)
    · exact Blk.new (by simp [hg])
  rw [← hg, show g + 1 + 1 = g + 2 from rfl]
  generalize (((w.alloc (.cells C 22)).alloc (.cells F 22)).alloc (.cells Z 22)) = W0 at *
  have HI := Hid.mk' hI
  have HG := Hid.mk' hg
  have HBL := Hid.mk' hb
  clear hI hg hz HZ HC HF hb
  go_loopw [5] (fun i wr => ∃ k : Nat, k ≤ 16 ∧ i = .int .i64 k ∧ GaI w g a b k wr) (fun i _ => 16 - (intOf i).toNat)
  case atStart => exact ⟨0, by decide, rfl, HI.out⟩
  case round =>
    obtain ⟨k, hk, rfl, hI⟩ := hrel
    have HI := Hid.mk' hI
    clear hI
    by_cases hlt : k < 16
    · have hki : (k : Int) < 16 := by omega
      have c1 := blk_nts HI.out.out k (by rw [partG_len]; exact hlt)
      rw [partG_at a b k hlt] at c1
      have c2 := blk_nts HI.out.sb k (by rw [HBL.out]; exact hlt)
      have hfr := HI.out.out.free k
      have hxor := xor_b8 (at8 a k) (at8 b k)
      generalize hX : at8 a k = X at *
      generalize hY : at8 b k = Y at *
      have HXY : Hid (at8 a k = X ∧ at8 b k = Y) := ⟨hX, hY⟩
      clear hX hY
      go_wp2
      refine region_ends (l := [_, _, _, _, _, _, _, _, _]) (o := _) (by kernel_rfl) (by kernel_rfl) (by kernel_rfl) rfl (by kernel_rfl) (by kernel_rfl) ?_
      repeat (quiet_step (fail))
      refine wpQuiet_nil ?_
      intro _ hw'
      obtain ⟨nq, hw''⟩ := hw'
      subst hw''
      go_wp2
      have h := HI.out
      have hs2 : But (· = g) wr ((wr.drewN nq).setCell ⟨g, k, none⟩ (.int .u8 (b8 (X ^^^ Y) : Nat))) := ((But.refl (· = g) wr).drewN (n := nq)).setCell (p := ⟨g, k, none⟩) (fun _ => rfl) _
      refine ⟨⟨k + 1, by omega, by go_num, ⟨?_, h.sb.but hs2 (show ¬ (g + 1 = g) by omega), h.res.but hs2 (show ¬ (g + 2 = g) by omega), h.but.then hs2 (fun i hi e => by have := HG.out; omega)⟩⟩, by simp [intOf]; omega⟩
      rw [← partG_set a b k hlt, HXY.out.1, HXY.out.2]
      exact blk_nts_set h.out k _
    · have hk16 : k = 16 := by omega
      subst hk16
      obtain ⟨h0, h1, h2, hbt⟩ := HI.out
      rw [partG_all] at h0
      have H0 := Hid.mk' h0
      have H2 := Hid.mk' h2
      have HBT := Hid.mk' hbt
      clear h0 h1 h2 hbt HI
      obtain ⟨M, hM⟩ : ∃ M, M = gadd a b := ⟨_, rfl⟩
      have HML : Hid ((nts M).length = 16) := by show _ = _; rw [hM, nts_len, gadd_len]
      rw [← hM] at H0
      have HM := Hid.mk' hM
      clear hM
      go_wp2_with (first
        | (refine wpList_load_u8s Try.underlying22 i16g rfl _ rfl g (nts M) HML.out rfl H0.out ?_)
        | (refine wpList_store_u8s i16g rfl _ _ rfl (g + 2) (nts M) HML.out rfl (by exact rfl) _ (by simp [u8s]) H2.out ?_; intro w2 hb2 hbut2))
      refine bodyPost_ret (results_cell_row rfl _ _ (g + 2) _ _ _ _ rfl hb2 Try.underlying22 rfl (by rw [i16g]; simp [u8s, HML.out])) rfl ⟨by rw [HM.out], ?_⟩
      exact HBT.out.then hbut2 (fun i hi e => by have := HG.out; omega)
end Go.Proofs.Ytpdkdeebdhdhgaa
