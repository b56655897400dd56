/- ghash: the element of sixteen bytes, and back. -/
import Derived.Test.YtpdkdeebdhdhgaaGhashMul
namespace Go.Proofs.Ytpdkdeebdhdhgaa
open Go.RowKit

theorem val_lt (zs : List Nat) (hz : ∀ z ∈ zs, z < 256) (k : Nat) (hk : k ≤ zs.length) : val (zs.take k) < 256 ^ k := by
  induction k with
  | zero => simp [val]
  | succ k ih =>
    rw [val_next zs k (by omega), Nat.pow_succ]
    have h1 := ih (by omega)
    have h2 : zs.getD k 0 < 256 := hz _ (getD_mem zs k (by omega))
    omega
theorem shl_or (a z : Nat) (ha : a < 72057594037927936) (hz : z < 256) : bits .or .u64 ((a : Int) * 256) (z : Int) = ((256 * a + z : Nat) : Int) := by
  rw [show (a : Int) * 256 = ((a * 256 : Nat) : Int) by simp, u64_or_nat _ _ (by omega) (by omega)]
  have e : a * 256 ||| z = 256 * a + z := by
    rw [show a * 256 = 2 ^ 8 * a by omega, show (256 : Nat) = 2 ^ 8 by rfl, Nat.two_pow_add_eq_or_of_lt (by omega)]
  rw [e]
/-- What memory is amid elementOf. -/
structure OfI (w : World) (b : Nat) (a : List B8) (x y : Nat) (wr : World) : Prop where
  src : Blk wr b 22 (u8s (nts a))
  res : Blk wr (b + 1) 39 (ev 0#128)
  acc : Blk wr (b + 2) 39 [.int .u64 (x : Int), .int .u64 (y : Int)]
  but : But (fun _ => False) w wr
theorem OfI.first {w wr : World} {b : Nat} {a : List B8} {x y : Nat} (i : OfI w b a x y wr) (h : w.heap.size ≤ b) (x' : Nat) : OfI w b a x' y (wr.setCell ⟨b + 2, 0, none⟩ (.int .u64 (x' : Int))) := by
  have k : But (· = b + 2) wr (wr.setCell ⟨b + 2, 0, none⟩ (.int .u64 (x' : Int))) := (But.refl (· = b + 2) wr).setCell (p := ⟨b + 2, 0, none⟩) (fun _ => rfl) _
  exact ⟨i.src.but k (show ¬ (b = b + 2) by omega), i.res.but k (show ¬ (b + 1 = b + 2) by omega), i.acc.set 0 _, i.but.then k (fun j hj e => by omega)⟩
theorem OfI.second {w wr : World} {b : Nat} {a : List B8} {x y : Nat} (i : OfI w b a x y wr) (h : w.heap.size ≤ b) (y' : Nat) : OfI w b a x y' (wr.setCell ⟨b + 2, 1, none⟩ (.int .u64 (y' : Int))) := by
  have k : But (· = b + 2) wr (wr.setCell ⟨b + 2, 1, none⟩ (.int .u64 (y' : Int))) := (But.refl (· = b + 2) wr).setCell (p := ⟨b + 2, 1, none⟩) (fun _ => rfl) _
  exact ⟨i.src.but k (show ¬ (b = b + 2) by omega), i.res.but k (show ¬ (b + 1 = b + 2) by omega), i.acc.set 1 _, i.but.then k (fun j hj e => by omega)⟩
theorem OfI.at {w wr : World} {b : Nat} {a : List B8} {x y : Nat} (i : OfI w b a x y wr) (k : Nat) (hk : k < (nts a).length) : wr.cell? ⟨b, k, none⟩ = some (.int .u8 ((nts a).getD k 0 : Nat)) := by
  rw [i.src.cell, u8s_get _ k hk]
set_option maxRecDepth 100000 in
set_option maxHeartbeats 2000000 in
theorem elementOf_any {w : World} {a : List B8} (ha : a.length = 16) :
    Calls Try.prog 21 #[.agg (u8s (nts a)).toArray] w fun r w' => r = .returned (.agg (ev (toG a)).toArray) ∧ But (fun _ => False) w w' := by
  obtain ⟨b, hbb⟩ : ∃ b, b = w.heap.size := ⟨_, rfl⟩
  obtain ⟨C, hC⟩ : ∃ C, C = (u8s (nts a)).toArray := ⟨_, rfl⟩
  rw [← hC]
  obtain ⟨zs, hzs⟩ : ∃ zs, zs = nts a := ⟨_, rfl⟩
  have HZL : Hid (zs.length = 16) := by show _ = _; rw [hzs, nts_len]; exact ha
  have HZT : Hid (∀ z ∈ zs, z < 256) := by rw [hzs]; exact nts_lt a
  have HZS := Hid.mk' hzs
  have HB := Hid.mk' hbb
  have HI0 : Hid (OfI w b a (val (zs.take 0)) 0 (((w.alloc (.cells C 22)).alloc (.cells #[.int .u64 0, .int .u64 0] 39)).alloc (.cells #[.int .u64 0, .int .u64 0] 39))) := by
    have al : ∀ (x : World) (o : Obj), But (fun _ => False) x (x.alloc o) := fun x o => (But.refl _ x).alloc o
    rw [hC]
    refine ⟨((Blk.new hbb.symm).but (al _ _) (fun h => h)).but (al _ _) (fun h => h), ?_, ?_, (((But.refl _ w).alloc _).alloc _).alloc _⟩
    · rw [ev_zero]
      exact (Blk.new (by simp [hbb])).but (al _ _) (fun h => h)
    · exact Blk.new (by simp [hbb])
  have HA := Hid.mk' ha
  clear hC hzs ha
  go_enter Try.func21, Try.ntmps21
  go_wp2
  rw [← hbb, show b + 1 + 1 = b + 2 from rfl]
  generalize (((w.alloc (.cells C 22)).alloc (.cells #[.int .u64 0, .int .u64 0] 39)).alloc (.cells #[.int .u64 0, .int .u64 0] 39)) = W0 at *
  clear hbb
  go_loopw [10] (fun i wr => ∃ k : Nat, k ≤ 8 ∧ i = .int .i64 k ∧ OfI w b a (val (zs.take k)) 0 wr) (fun i _ => 8 - (intOf i).toNat)
  case atStart => exact ⟨0, by omega, rfl, HI0.out⟩
  case round =>
    obtain ⟨k, hk, rfl, hI⟩ := hrel
    obtain ⟨n, hn⟩ : ∃ n, n = val (zs.take k) := ⟨_, rfl⟩
    rw [← hn] at hI
    have HN := Hid.mk' hn
    have HI := Hid.mk' hI
    clear hI HI0
    by_cases hlt : k < 8
    · have hki : (k : Int) < 8 := by omega
      have hnl : n < 72057594037927936 := by
        have h1 := val_lt zs HZT.out k (by rw [HZL.out]; omega)
        have h2 : 256 ^ k ≤ 256 ^ 7 := Nat.pow_le_pow_right (by decide) (by omega)
        rw [← hn] at h1
        exact Nat.lt_of_lt_of_le h1 h2
      obtain ⟨z, hz⟩ : ∃ z, z = zs.getD k 0 := ⟨_, rfl⟩
      have hzl : z < 256 := by rw [hz]; exact HZT.out _ (getD_mem zs k (by rw [HZL.out]; omega))
      have c1 : wr.cell? ⟨b, k, none⟩ = some (.int .u8 (z : Int)) := by
        rw [HI.out.at k (by rw [← HZS.out, HZL.out]; omega), hz, HZS.out]
      have c2 : wr.cell? ⟨b + 2, 0, none⟩ = some (.int .u64 (n : Int)) := HI.out.acc.cell 0
      have f2 : wr.frozen? ⟨b + 2, 0, none⟩ = false := HI.out.acc.free 0
      have ho := shl_or n z hnl hzl
      have HZ := Hid.mk' hz
      clear hz hn
      go_wp2
      refine ⟨⟨k + 1, by omega, by go_num, ?_⟩, by simp [intOf]; omega⟩
      have e : val (zs.take (k + 1)) = 256 * n + z := by rw [val_next zs k (by rw [HZL.out]; omega), ← HN.out, ← HZ.out]
      have h := HI.out.first (by rw [HB.out]; exact Nat.le_refl _) (256 * n + z)
      rw [e]
      push_cast at h
      exact h
    · have hkn : k = 8 := by omega
      subst hkn
      have HX : Hid (n = n6 (fw (toG a))) := by
        show _ = _
        rw [hn, HZS.out]; exact (fw_val HA.out).symm
      clear hn HN
      have hcast : ((8 : Nat) : Int) = 8 := rfl
      rw [hcast]
      go_wp2
      obtain ⟨ys, hys⟩ : ∃ ys, ys = zs.drop 8 := ⟨_, rfl⟩
      have HYL : Hid (ys.length = 8) := by show _ = _; rw [hys, List.length_drop, HZL.out]
      have HYT : Hid (∀ z ∈ ys, z < 256) := by
        rw [hys]
        exact fun z hz => HZT.out z (List.mem_of_mem_drop hz)
      have HYS := Hid.mk' hys
      clear hys
      go_loopw [24] (fun i wr => ∃ k : Nat, k ≤ 8 ∧ i = .int .i64 k ∧ OfI w b a n (val (ys.take k)) wr) (fun i _ => 8 - (intOf i).toNat)
      case atStart => exact ⟨0, by omega, rfl, HI.out⟩
      case round =>
        obtain ⟨k, hk, rfl, hI⟩ := hrel
        obtain ⟨m, hm⟩ : ∃ m, m = val (ys.take k) := ⟨_, rfl⟩
        rw [← hm] at hI
        have HM := Hid.mk' hm
        have HJ := Hid.mk' hI
        clear hI HI
        by_cases hlt : k < 8
        · have hki : (k : Int) < 8 := by omega
          have hml : m < 72057594037927936 := by
            have h1 := val_lt ys HYT.out k (by rw [HYL.out]; omega)
            have h2 : 256 ^ k ≤ 256 ^ 7 := Nat.pow_le_pow_right (by decide) (by omega)
            rw [← hm] at h1
            exact Nat.lt_of_lt_of_le h1 h2
          obtain ⟨z, hz⟩ : ∃ z, z = ys.getD k 0 := ⟨_, rfl⟩
          have hzl : z < 256 := by rw [hz]; exact HYT.out _ (getD_mem ys k (by rw [HYL.out]; omega))
          have c1 : wr.cell? ⟨b, 8 + k, none⟩ = some (.int .u8 (z : Int)) := by
            rw [HJ.out.at (8 + k) (by rw [← HZS.out, HZL.out]; omega), hz, HYS.out, ← HZS.out]
            unfold List.getD
            rw [List.getElem?_drop]
          have c2 : wr.cell? ⟨b + 2, 1, none⟩ = some (.int .u64 (m : Int)) := HJ.out.acc.cell 1
          have f2 : wr.frozen? ⟨b + 2, 1, none⟩ = false := HJ.out.acc.free 1
          have ho := shl_or m z hml hzl
          have HZ := Hid.mk' hz
          clear hz hm
          go_wp2
          refine ⟨⟨k + 1, by omega, by go_num, ?_⟩, by simp [intOf]; omega⟩
          have e : val (ys.take (k + 1)) = 256 * m + z := by rw [val_next ys k (by rw [HYL.out]; omega), ← HM.out, ← HZ.out]
          have h := HJ.out.second (by rw [HB.out]; exact Nat.le_refl _) (256 * m + z)
          rw [e]
          push_cast at h
          exact h
        · have hkn : k = 8 := by omega
          subst hkn
          have HY : Hid (m = n6 (sw (toG a))) := by
            show _ = _
            rw [hm, HYS.out, HZS.out]; exact (sw_val HA.out).symm
          have HE : Hid (Blk wr (b + 2) 39 (ev (toG a))) := by
            have h := HJ.out.acc
            rw [HX.out, HY.out] at h
            exact h
          clear hm HM
          obtain ⟨s, hs⟩ : ∃ s, s = toG a := ⟨_, rfl⟩
          rw [← hs] at HE
          have HS := Hid.mk' hs
          clear hs
          go_wp2_with (first
            | (refine wpList_load_ev rfl _ rfl ⟨b + 2, 0, none⟩ s rfl (blk_add HE.out) ?_)
            | (refine wpList_store_ev rfl _ _ rfl (b + 1) 39 s 0#128 rfl (by exact rfl) HJ.out.res ?_; intro w9 hs9 hb9))
          refine bodyPost_ret (ret_el rfl _ _ (b + 1) 39 _ _ rfl hs9) rfl ⟨?_, HJ.out.but.then hb9 (fun j hj e => by have := HB.out; omega)⟩
          rw [← HS.out]
          rfl
end Go.Proofs.Ytpdkdeebdhdhgaa
