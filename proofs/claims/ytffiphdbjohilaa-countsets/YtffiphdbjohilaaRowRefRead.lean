/- The reference's reader: Num, Take, Left, End. -/
import Derived.Test.YtffiphdbjohilaaRowRefPut
import Derived.Deep.RegionWith
import Derived.BigRegion
namespace Go.Proofs.Ytffiphdbjohilaa
open Go.RowKit

theorem refNum_nil (ao : Option Addr) (cap : Nat) (w : World) : Calls Try.prog 26 #[.slice ao 0 cap] w fun e w' => e = .returned (.int .u64 0) ∧ w' = w := by
  go_enter Try.func26, Try.ntmps26
  go_wp2
  refine wp_loop_rounds 1 ?_
  rw [rounds_succ]
  go_wp2
  go_ret
  exact ⟨rfl, rfl⟩
theorem refNum_any {v : Value} {zs : List Nat} {w : World} (hv : Bs w v zs) (h8 : zs.length ≤ 8) : Calls Try.prog 26 #[v] w fun e w' => e = .returned (.int .u64 (val zs : Nat)) ∧ w' = w := by
  obtain ⟨hb, _, hcase⟩ := hv
  rcases hcase with ⟨rfl, hc⟩ | ⟨h0, b, off, cap, rfl, hcap, hblk, hcell⟩
  · obtain ⟨a0, c0, rfl⟩ : ∃ ao cap, v = .slice ao 0 cap := by rcases hc with rfl | ⟨a, cap, rfl⟩ <;> exact ⟨_, _, rfl⟩
    exact refNum_nil a0 c0 w
  · obtain ⟨n, hn⟩ : ∃ n, zs.length = n := ⟨_, rfl⟩
    rw [hn] at h8 h0 hcap hcell ⊢
    have HN : Hid (zs.length = n) := hn
    have HC : Hid (∀ i, i < n → w.cell? ⟨b, off + i, none⟩ = some (.int .u8 (zs.getD i 0 : Nat))) := hcell
    have HB : Hid (∀ z ∈ zs, z < 256) := hb
    clear hn hcell hb
    go_enter Try.func26, Try.ntmps26
    go_wp2
    go_loop [3, 4] (fun a i => ∃ k : Nat, k ≤ n ∧ i = .int .i64 k ∧ a = .int .u64 (val (zs.take k) : Nat)) (fun _ i => n - (intOf i).toNat)
    case atStart => exact ⟨0, Nat.zero_le _, rfl, rfl⟩
    case round =>
      obtain ⟨k, hk, rfl, rfl⟩ := hrel
      by_cases hlt : k < n
      · obtain ⟨z, hz⟩ : ∃ z, zs.getD k 0 = z := ⟨_, rfl⟩
        have hkl : k < zs.length := by rw [HN.out]; exact hlt
        have f1 : w.cell? ⟨b, off + k, none⟩ = some (.int .u8 (z : Nat)) := by rw [← hz]; exact HC.out k hlt
        have hz1 : z < 256 := by rw [← hz]; exact HB.out _ (getD_mem zs k hkl)
        have HV : Hid (val (zs.take (k + 1)) = 256 * val (zs.take k) + z) := by rw [← hz]; exact val_next zs k hkl
        have ha : val (zs.take k) < 72057594037927936 := by
          have h1 := val_lt zs HB.out k (by omega)
          have h2 : 256 ^ k ≤ 256 ^ 7 := Nat.pow_le_pow_right (by decide) (by omega)
          omega
        clear hz
        generalize val (zs.take k) = a at *
        go_wp2
        go_round
        case rel => exact ⟨k + 1, by omega, by go_num, by rw [HV.out]; simp⟩
        case measure => simp [intOf]; omega
      · have hkn : k = n := by omega
        subst hkn
        have e : zs.take k = zs := List.take_of_length_le (by rw [HN.out]; omega)
        rw [e]
        go_wp2
        go_ret
        exact ⟨rfl, rfl⟩

end Go.Proofs.Ytffiphdbjohilaa
