/- ghash: the bytes of two words, and of an element; Times. -/
import Derived.Test.YtpdkdeebdhdhgaaGhashOf
namespace Go.Proofs.Ytpdkdeebdhdhgaa
open Go.RowKit

theorem be_snoc (N : Nat) : ∀ k, be N (k + 1) = be (N / 256) k ++ [N % 256]
  | 0 => by simp [be]
  | k + 1 => by
    show (N / 256 ^ (k + 1) % 256) :: be N (k + 1) = (N / 256 / 256 ^ k % 256) :: be (N / 256) k ++ [N % 256]
    rw [be_snoc N k, Nat.div_div_eq_div_mul, Nat.pow_succ, Nat.mul_comm (256 ^ k) 256]
    rfl
theorem be_val (zs : List Nat) (hz : ∀ z ∈ zs, z < 256) : ∀ k, k ≤ zs.length → be (val (zs.take k)) k = zs.take k
  | 0, _ => by simp [be]
  | k + 1, h => by
    have h1 : zs.getD k 0 < 256 := hz _ (getD_mem zs k (by omega))
    rw [be_snoc, val_next zs k (by omega), show (256 * val (zs.take k) + zs.getD k 0) / 256 = val (zs.take k) by omega, show (256 * val (zs.take k) + zs.getD k 0) % 256 = zs.getD k 0 by omega, be_val zs hz k (by omega), take_next' zs k (by omega)]
theorem be_words (g : G) : be (n6 (fw g)) 8 ++ be (n6 (sw g)) 8 = nts (ofG g) := by
  have h1 := fw_val (ofG_len g)
  have h2 := sw_val (ofG_len g)
  rw [toG_ofG] at h1 h2
  have hl : (nts (ofG g)).length = 16 := by rw [nts_len, ofG_len]
  unfold n6
  rw [h1, h2, be_val _ (nts_lt _) 8 (by omega), be_val _ (fun z hz => nts_lt _ z (List.mem_of_mem_drop hz)) 8 (by rw [List.length_drop]; omega)]
  rw [List.take_of_length_le (l := (nts (ofG g)).drop 8) (by rw [List.length_drop]; omega), List.take_append_drop]
theorem be_last (a t : Nat) : be (8 * a) 8 ++ be (8 * t) 8 = lastB a t := by
  simp [be, lastB, lenB, List.range, List.range.loop]
theorem arr16 (w : World) (a : Addr) (c : Nat) : Sem.run Try.prog (Instr.arrayAt 22 (.slice (some a) 16 c)) w = .ok (.pointer (some a)) w := rfl
set_option maxRecDepth 100000 in
set_option maxHeartbeats 1000000 in
theorem blockOf_any {w : World} (x y : Nat) (hx : x < 18446744073709551616) (hy : y < 18446744073709551616) :
    Calls Try.prog 29 #[.int .u64 (x : Int), .int .u64 (y : Int)] w fun r w' => r = .returned (.agg (u8s (be x 8 ++ be y 8)).toArray) ∧ But (fun _ => False) w w' := by
  obtain ⟨b, hbb⟩ : ∃ b, b = w.heap.size := ⟨_, rfl⟩
  have hz := zeroG
  obtain ⟨Z, hZ⟩ : ∃ Z, Z = (u8s (List.replicate 16 0)).toArray := ⟨_, rfl⟩
  rw [← hZ] at hz
  obtain ⟨W0, hW0⟩ : ∃ W0, W0 = w.alloc (.cells Z 22) := ⟨_, rfl⟩
  have HT0 : Hid (But (fun _ => False) w W0) := by rw [hW0]; exact (But.refl _ w).alloc _
  have HR0 : Hid (Blk W0 b 22 (u8s (List.replicate 16 0))) := by rw [hW0, hZ]; exact Blk.new hbb.symm
  have HB := Hid.mk' hbb
  have HW := Hid.mk' hW0
  have HP1 := Hid.mk' (put_ok (Bs.nil W0) (by decide) x 8 (by decide) (by decide) (by omega))
  have HYB := Hid.mk' hy
  clear hbb hW0 hZ hx hy
  go_enter Try.func29, Try.ntmps29
  go_wp2_with fail
  rw [← HW.out, ← HB.out]
  refine Calls.mono HP1.out ?_
  rintro e w1 ⟨v1, rfl, ho1, hb1⟩
  rw [List.nil_append] at ho1
  have HT1 : Hid (But (fun _ => False) W0 w1) := But.of hb1
  have HP2 := Hid.mk' (put_ok ho1.bs (by rw [be_len]; decide) y 8 (by decide) (by decide) (by have := HYB.out; omega))
  clear ho1 hb1 HP1
  go_wp2_with fail
  refine Calls.mono HP2.out ?_
  rintro e w2 ⟨v2, rfl, ho2, hb2⟩
  have HT2 : Hid (But (fun _ => False) w1 w2) := But.of hb2
  obtain ⟨zs, hzs⟩ : ∃ zs, zs = be x 8 ++ be y 8 := ⟨_, rfl⟩
  rw [← hzs] at ho2
  have HZL : Hid (zs.length = 16) := by show _ = _; rw [hzs, List.length_append, be_len, be_len]
  obtain ⟨ao, c2, rfl, hno, hc2⟩ := ho2.bs.gen
  rw [HZL.out] at hno
  obtain ⟨ad, rfl⟩ : ∃ ad, ao = some ad := by
    cases ao with
    | none => exact absurd (hno rfl).1 (by decide)
    | some ad => exact ⟨ad, rfl⟩
  have HCC := Hid.mk' (hc2 ad rfl)
  have ha := arr16 w2 ad c2
  rw [HZL.out]
  have HR2 := Hid.mk' ((HR0.out.but HT1.out (fun h => h)).but HT2.out (fun h => h))
  have HZS := Hid.mk' hzs
  clear hzs ho2 hb2 hno hc2 HP2
  go_wp2_with (first
    | (refine wpList_load_cells rfl _ _ rfl ad rfl (u8s zs) _ HCC.out Try.underlying22 rfl (by rw [i16g]; simp [u8s, HZL.out]) ?_)
    | (refine wpList_store_u8s i16g rfl _ _ rfl b zs HZL.out rfl (by exact rfl) _ (by simp [u8s]) HR2.out ?_; intro w9 hb9 hbut9))
  refine bodyPost_ret (results_cell_row rfl _ _ b _ _ _ _ rfl hb9 Try.underlying22 rfl (by rw [i16g]; simp [u8s, HZL.out])) rfl ⟨by rw [← HZS.out], ?_⟩
  exact ((HT0.out.trans HT1.out).trans HT2.out).then hbut9 (fun j hj e => by have := HB.out; omega)
end Go.Proofs.Ytpdkdeebdhdhgaa
