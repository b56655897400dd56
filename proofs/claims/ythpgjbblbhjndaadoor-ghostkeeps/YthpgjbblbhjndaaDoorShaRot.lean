/- The program's rotr. -/
import Derived.Test.YthpgjbblbhjndaaDoorShaRef
namespace Go.Proofs.YthpgjbblbhjndaaDoor
open Go.RowKit

theorem rotl_any (x : BitVec 32) (n : Nat) (h1 : 1 ≤ n) (h2 : n ≤ 31) (w : World) :
    Calls Tryd.prog 50 #[.int .u32 (nt x), .int .i64 (-(n : Int))] w fun e w' => e = .returned (.int .u32 (nt (x.rotateRight n))) ∧ w' = w := by
  have hx := nt_lt x
  obtain ⟨m, hm⟩ : ∃ m, m = 32 - n := ⟨_, rfl⟩
  have hs : bits .and .u64 (IntKind.u64.wrap (-(n : Int))) 31 = (m : Int) := by
    rw [show IntKind.u64.wrap (-(n : Int)) = (-(n : Int)) % 18446744073709551616 by simp [IntKind.wrap, IntKind.bits, IntKind.signed], show (-(n : Int)) % 18446744073709551616 = ((18446744073709551616 - n : Nat) : Int) by omega]
    have e := u64_and_nat (18446744073709551616 - n) 31 (by omega) (by decide)
    have e2 : (18446744073709551616 - n) &&& 31 = m := by
      rw [show (31 : Nat) = 2 ^ 5 - 1 by rfl, Nat.and_two_pow_sub_one_eq_mod]; omega
    rw [e2] at e
    exact e
  have hr := rot_nt x n h2
  have hm1 : 1 ≤ m := by omega
  have hm2 : m ≤ 31 := by omega
  have hnm : n = 32 - m := by omega
  rw [← hm] at hr
  have hq : (32 - (m : Int)) = (n : Int) := by omega
  have hr2 : bits .or .u32 ((nt x : Int) * 2 ^ m % 4294967296) ((nt x : Int) / 2 ^ n) = (nt (x.rotateRight n) : Int) := by
    rw [← hr, shl_ntm, shr_nt, or_nt, or_nt, BitVec.or_comm]
  clear hm hnm
  go_enter Tryd.func50, Tryd.ntmps50
  go_wp2
  go_ret
  refine ⟨?_, rfl⟩
  rw [← hr2]; rfl
theorem srotr_any (x : BitVec 32) (n : Nat) (h1 : 1 ≤ n) (h2 : n ≤ 31) (w : World) :
    Calls Tryd.prog 49 #[.int .u32 (nt x), .int .i64 n] w fun e w' => e = .returned (.int .u32 (nt (x.rotateRight n))) ∧ w' = w := by
  have H := Hid.mk' (rotl_any x n h1 h2 w)
  go_enter Tryd.func49, Tryd.ntmps49
  go_wp2_with (refine Calls.mono H.out ?_; rintro e w' ⟨rfl, rfl⟩)
  go_ret
  exact ⟨rfl, rfl⟩
end Go.Proofs.YthpgjbblbhjndaaDoor
