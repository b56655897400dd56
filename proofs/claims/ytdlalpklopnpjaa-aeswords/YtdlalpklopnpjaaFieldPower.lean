/- The program's Power and Inverse; the reference's. -/
import Derived.Test.YtdlalpklopnpjaaFieldRefTimes
namespace Go.Proofs.Ytdlalpklopnpjaa
open Go.RowKit

theorem pw_odd (q x : B8) (m : Nat) (h : m % 2 = 1) : tm (tm q x) (pw (tm x x) (m / 2)) = tm q (pw x m) := by
  rw [pw_sq, ← tm_assoc]
  have e : m = 1 + 2 * (m / 2) := by omega
  have e1 : x = pw x 1 := (one_tm x).symm
  conv => lhs; arg 2; arg 1; rw [e1]
  rw [pw_add, ← e]
theorem pw_even (q x : B8) (m : Nat) (h : m % 2 = 0) : tm q (pw (tm x x) (m / 2)) = tm q (pw x m) := by
  rw [pw_sq]
  have e : m = 2 * (m / 2) := by omega
  rw [← e]
set_option maxHeartbeats 1000000 in
theorem power_any (a : B8) (N : Int) (h2 : N < 9223372036854775808) (w : World) :
    Calls Try.prog 59 #[.int .u8 (b8 a), .int .i64 N] w fun e w' => e = .returned (.int .u8 (b8 (pw a N.toNat))) ∧ w' = w := by
  have H := Hid.mk' (fun x y => times_any x y w)
  obtain ⟨P, hP⟩ : ∃ P, P = pw a N.toNat := ⟨_, rfl⟩
  rw [← hP]
  have HP := Hid.mk' hP
  have H2 := Hid.mk' h2
  clear hP h2
  go_enter Try.func59, Try.ntmps59
  go_wp2
  go_loopw [0, 1, 5] (fun x n p wr => ∃ (X Q : B8) (M : Int), x = .int .u8 (b8 X) ∧ n = .int .i64 M ∧ p = .int .u8 (b8 Q) ∧ M < 9223372036854775808 ∧ tm Q (pw X M.toNat) = P ∧ wr = w) (fun _ n _ _ => (intOf n).toNat)
  case atStart => exact ⟨a, 1#8, N, rfl, rfl, rfl, H2.out, by rw [HP.out]; exact one_tm _, rfl⟩
  case round =>
    obtain ⟨X, Q, M, rfl, rfl, rfl, hM, hrel2, rfl⟩ := hrel
    have HE := Hid.mk' hrel2
    clear hrel2
    by_cases h0 : 0 < M
    · obtain ⟨m, hm⟩ : ∃ m : Nat, M = (m : Int) := ⟨M.toNat, by omega⟩
      have HM := Hid.mk' (show M.toNat = m by omega)
      rw [HM.out] at HE
      have HAN := Hid.mk' (i64_and_one m (by omega))
      have HB := Hid.mk' hM
      have HMM := Hid.mk' hm
      clear hM
      rw [← hm] at HAN
      have HD : Hid (M / 2 = ((m / 2 : Nat) : Int)) := by show _ = _; omega
      clear hm
      by_cases hodd : m % 2 = 1
      · have hand : bits .and .i64 M 1 = 1 := by rw [HAN.out, hodd]; rfl
        have HO := Hid.mk' (pw_odd Q X m hodd)
        clear hodd
        go_wp2_with fail
        refine Calls.mono (H.out Q X) ?_
        rintro e w1 ⟨rfl, hw⟩
        have hw' := hw.symm
        subst hw'
        go_wp2_with fail
        refine Calls.mono (H.out X X) ?_
        rintro e w1 ⟨rfl, hw⟩
        have hw' := hw.symm
        subst hw'
        go_wp2
        refine ⟨⟨tm X X, tm Q X, ((m / 2 : Nat) : Int), rfl, by rw [← HD.out], rfl, by have := HB.out; have := HMM.out; omega, ?_, trivial⟩, by have := HMM.out; simp [intOf]; omega⟩
        rw [show (((m / 2 : Nat) : Int)).toNat = m / 2 by omega, HO.out, HE.out]
      · have hev : m % 2 = 0 := by omega
        have hand : bits .and .i64 M 1 = 0 := by rw [HAN.out, hev]; rfl
        have HO := Hid.mk' (pw_even Q X m hev)
        clear hodd hev
        go_wp2_with fail
        refine Calls.mono (H.out X X) ?_
        rintro e w1 ⟨rfl, hw⟩
        have hw' := hw.symm
        subst hw'
        go_wp2
        refine ⟨⟨tm X X, Q, ((m / 2 : Nat) : Int), rfl, by rw [← HD.out], rfl, by have := HB.out; have := HMM.out; omega, ?_, trivial⟩, by have := HMM.out; simp [intOf]; omega⟩
        rw [show (((m / 2 : Nat) : Int)).toNat = m / 2 by omega, HO.out, HE.out]
    · have e : Q = P := by
        rw [← HE.out, show M.toNat = 0 by omega]; exact (tm_one Q).symm
      subst e
      go_wp2
      go_ret
      exact ⟨rfl, rfl⟩
end Go.Proofs.Ytdlalpklopnpjaa
