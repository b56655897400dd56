/- What real.Fade and the reference's Fade answer. -/
import Derived.Test.YtmlklmhochihbaaRealFade
import Derived.ProofKit
import Derived.OpenShut
import Derived.ChangeOld
import Derived.Below
namespace Go.Proofs.Ytmlklmhochihbaa
open Go.ChangeShapes Go.WideShapes Go.ChangeAt Go.RowKit

theorem int_eq {k : IntKind} {a b : Int} (h : a = b) : Value.int k a = .int k b := by rw [h]
theorem flv_eq {a b : Nat} (h : a = b) : Value.float .f64 a = .float .f64 b := by rw [h]

theorem fade_any (b : Nat) (N : Int) (w : World) (hb : b < 18446744073709551616) (n1 : -9223372036854775808 ≤ N) (n2 : N ≤ 9223372036854775807) :
    Calls Try.prog 72 #[.float .f64 b, .int .i64 N] w fun e w' => e = .returned (.float .f64 (fd b N.toNat)) ∧ w' = w := by
  have m1 := mg_lt b
  by_cases c1 : 9218868437227405312 ≤ mg b
  · rw [fd_big b _ c1]
    have c2 : decide (9218868437227405312 ≤ (mg b : Int)) = true := by simp; omega
    clear c1
    go_enter Try.func72, Try.ntmps72
    go_wp2_with (go_at_call 88; refine (magnitude_any _ _ (by assumption)).mono ?_; rintro e w' ⟨rfl, rfl⟩)
    go_ret
    exact ⟨rfl, rfl⟩
  · have c2 : decide (9218868437227405312 ≤ (mg b : Int)) = false := by simp; omega
    have hl : mg b < 9218868437227405312 := by omega
    have he := fd_num b N.toNat hl
    have H : Hid (fd b N.toNat = sg b + hfi N.toNat (mg b)) := he
    have h5 := from_run
    clear he c1
    go_enter Try.func72, Try.ntmps72
    go_wp2_with (go_at_call 88; refine (magnitude_any _ _ (by assumption)).mono ?_; rintro e w' ⟨rfl, rfl⟩)
    go_loop [1, 5] (fun n m => ∃ k : Nat, k ≤ N.toNat ∧ n = .int .i64 (N - k) ∧ m = .int .u64 ((hfi k (mg b) : Nat) : Int)) (fun n _ => (intOf n).toNat)
    case atStart => exact ⟨0, Nat.zero_le _, int_eq (by omega), rfl⟩
    case round =>
      obtain ⟨k, hk, rfl, rfl⟩ := hrel
      have hm2 := hfi_le k (mg b)
      have hm3 : hfi k (mg b) < 9223372036854775808 := by omega
      have ho := or_sg b (hfi k (mg b)) hm3
      by_cases c3 : 0 < N - (k : Int)
      · by_cases c4 : 0 < hfi k (mg b)
        · have HS : Hid (hfi (k + 1) (mg b) = hf (hfi k (mg b))) := hfi_succ k (mg b)
          go_wp2_with (go_at_call 89; refine (half_any _ _ (by assumption)).mono ?_; rintro e w' ⟨rfl, rfl⟩)
          go_round
          case rel => exact ⟨k + 1, by omega, int_eq (by omega), int_eq (by rw [HS.out])⟩
          case measure => simp [intOf]; omega
        · have HZ : Hid (hfi N.toNat (mg b) = hfi k (mg b)) := by
            have z : hfi k (mg b) = 0 := by omega
            have : hfi N.toNat (mg b) = hfi k (mg b) := by rw [z, hfi_stop k N.toNat (mg b) z hk]
            exact this
          go_wp2_with (go_at_call 91; refine (sign_any _ _ (by assumption)).mono ?_; rintro e w' ⟨rfl, rfl⟩)
          go_ret
          exact ⟨fl_num (by rw [H.out, HZ.out]), rfl⟩
      · have HZ : Hid (N.toNat = k) := by
          have : N.toNat = k := by omega
          exact this
        go_wp2_with (go_at_call 91; refine (sign_any _ _ (by assumption)).mono ?_; rintro e w' ⟨rfl, rfl⟩)
        go_ret
        exact ⟨fl_num (by rw [H.out, HZ.out]), rfl⟩

theorem refFade_any (b : Nat) (N : Int) (w : World) (hb : b < 18446744073709551616) (n1 : -9223372036854775808 ≤ N) (n2 : N ≤ 9223372036854775807) :
    Calls Try.prog 65 #[.float .f64 b, .int .i64 N] w fun e w' => e = .returned (.float .f64 (fd b N.toNat)) ∧ w' = w := by
  have HF : Hid (∀ n : Nat, 2200 ≤ n → fd b n = fd b 2200) := fd_far b
  go_enter Try.func65, Try.ntmps65
  go_wp2
  go_loop [0, 5] (fun x i => ∃ k : Nat, k ≤ N.toNat ∧ k ≤ 2200 ∧ i = .int .i64 k ∧ x = .float .f64 (fd b k)) (fun _ i => 2200 - (intOf i).toNat)
  case atStart => exact ⟨0, Nat.zero_le _, Nat.zero_le _, rfl, flv_eq (fd_zero b hb).symm⟩
  case round =>
    obtain ⟨k, hk, hk2, rfl, rfl⟩ := hrel
    have hl := fd_lt b k hb
    by_cases c1 : (k : Int) < N
    · by_cases c2 : (k : Int) < 2200
      · have HS : Hid (fd (fd b k) 1 = fd b (k + 1)) := fd_fd b k 1
        go_wp2_with (go_at_call 74; refine (Half_any _ _ (by assumption)).mono ?_; rintro e w' ⟨rfl, rfl⟩)
        go_round
        case rel => exact ⟨k + 1, by omega, by omega, by go_num, flv_eq HS.out⟩
        case measure => simp [intOf]; omega
      · go_wp2
        go_ret
        exact ⟨fl_num (by rw [HF.out N.toNat (by omega), show k = 2200 by omega]), rfl⟩
    · go_wp2
      go_ret
      exact ⟨fl_num (by rw [show N.toNat = k by omega]), rfl⟩

end Go.Proofs.Ytmlklmhochihbaa
