/- The reference's Box and Back. -/
import Derived.Test.YtdlalpklopnpjaaFieldRefPower
namespace Go.Proofs.Ytdlalpklopnpjaa
open Go.RowKit

theorem bitAt_le (b : B8) (k : Nat) : bitAt b k ≤ 1 := by unfold bitAt; omega
theorem bitAt_and (b : B8) (k : Nat) (h : k < 8) : bits .and .u8 ((b8 b : Int) / 2 ^ k) 1 = (bitAt b k : Int) := by
  revert b
  have e : ∀ k, k < 8 → ∀ n, n < 256 → bits .and .u8 ((b8 (BitVec.ofNat 8 n) : Int) / 2 ^ k) 1 = (bitAt (BitVec.ofNat 8 n) k : Int) := by decide +kernel
  exact all8 (e k h)
theorem byBits_or (b : B8) (k : Nat) (h : k < 8) : bits .or .u8 (byBits b k : Int) ((sumAt b k % 2 : Nat) * 2 ^ k % 256) = (byBits b (k + 1) : Int) := by
  revert b
  have e : ∀ k, k < 8 → ∀ n, n < 256 → bits .or .u8 (byBits (BitVec.ofNat 8 n) k : Int) ((sumAt (BitVec.ofNat 8 n) k % 2 : Nat) * 2 ^ k % 256) = (byBits (BitVec.ofNat 8 n) (k + 1) : Int) := by decide +kernel
  exact all8 (e k h)
theorem byBits_lt8 (b : B8) (k : Nat) (h : k ≤ 8) : byBits b k < 256 :=
  Nat.lt_of_lt_of_le (byBits_lt b k) (Nat.pow_le_pow_right (n := 2) (by decide) h)
set_option maxHeartbeats 1000000 in
theorem rbox_any (a : B8) (w : World) :
    Calls Try.prog 45 #[.int .u8 (b8 a)] w fun e w' => e = .returned (.int .u8 (b8 (bx a))) ∧ w' = w := by
  have HI := Hid.mk' (rinverse_any a w)
  go_enter Try.func45, Try.ntmps45
  go_wp2_with fail
  refine Calls.mono HI.out ?_
  rintro e w1 ⟨rfl, hw⟩
  have hw' := hw.symm
  subst hw'
  go_wp2_with fail
  obtain ⟨b, hb⟩ : ∃ b, b = inv a := ⟨_, rfl⟩
  have HBX : Hid (byBits b 8 = b8 (bx a)) := by show _ = _; rw [hb]; exact byBits_aff (inv a)
  rw [← hb]
  clear hb HI
  go_loopw [4, 5] (fun s i wr => ∃ k : Nat, k ≤ 8 ∧ i = .int .u64 k ∧ s = .int .u8 (byBits b k : Nat) ∧ wr = w) (fun _ i _ => 8 - (intOf i).toNat)
  case atStart => exact ⟨0, by decide, rfl, rfl, rfl⟩
  case round =>
    obtain ⟨k, hk, rfl, rfl, rfl⟩ := hrel
    by_cases hlt : k < 8
    · have hlti : (k : Int) < 8 := by omega
      have ha0 := bitAt_and 99#8 k hlt
      have ha1 := bitAt_and b k hlt
      have ha4 := bitAt_and b ((k + 4) % 8) (by omega)
      have ha5 := bitAt_and b ((k + 5) % 8) (by omega)
      have ha6 := bitAt_and b ((k + 6) % 8) (by omega)
      have ha7 := bitAt_and b ((k + 7) % 8) (by omega)
      have l0 := bitAt_le 99#8 k
      have l1 := bitAt_le b k
      have l4 := bitAt_le b ((k + 4) % 8)
      have l5 := bitAt_le b ((k + 5) % 8)
      have l6 := bitAt_le b ((k + 6) % 8)
      have l7 := bitAt_le b ((k + 7) % 8)
      have hor := byBits_or b k hlt
      have hbb := b8_lt b
      have hby := byBits_lt8 b k hk
      have hS : sumAt b k = bitAt 99#8 k + bitAt b k + bitAt b ((k + 4) % 8) + bitAt b ((k + 5) % 8) + bitAt b ((k + 6) % 8) + bitAt b ((k + 7) % 8) := rfl
      have e4 : ((k : Int) + 4) % 8 = ((k + 4) % 8 : Nat) := by omega
      have e5 : ((k : Int) + 5) % 8 = ((k + 5) % 8 : Nat) := by omega
      have e6 : ((k : Int) + 6) % 8 = ((k + 6) % 8 : Nat) := by omega
      have e7 : ((k : Int) + 7) % 8 = ((k + 7) % 8 : Nat) := by omega
      have q4 : (k + 4) % 8 < 8 := by omega
      have q5 : (k + 5) % 8 < 8 := by omega
      have q6 : (k + 6) % 8 < 8 := by omega
      have q7 : (k + 7) % 8 < 8 := by omega
      generalize (k + 4) % 8 = k4 at *
      generalize (k + 5) % 8 = k5 at *
      generalize (k + 6) % 8 = k6 at *
      generalize (k + 7) % 8 = k7 at *
      change bits .and .u8 (99 / 2 ^ k) 1 = _ at ha0
      generalize bitAt 99#8 k = x0 at *
      generalize bitAt b k = x1 at *
      generalize bitAt b k4 = x4 at *
      generalize bitAt b k5 = x5 at *
      generalize bitAt b k6 = x6 at *
      generalize bitAt b k7 = x7 at *
      generalize sumAt b k = S at *
      have hSi : (x0 : Int) + x1 + x4 + x5 + x6 + x7 = (S : Int) := by omega
      have hS6 : S ≤ 6 := by omega
      have ht1 : (S : Int) % 2 = ((S % 2 : Nat) : Int) := by omega
      have ht2 : Int.tmod (S : Int) 2 = ((S % 2 : Nat) : Int) := by rw [Int.tmod_eq_emod_of_nonneg (by omega)]; exact ht1
      have hT : S % 2 ≤ 1 := by omega
      generalize S % 2 = T at *
      clear hS
      go_wp2
      exact ⟨⟨k + 1, by omega, by go_num, rfl, trivial⟩, by simp [intOf]; omega⟩
    · have hk8 : k = 8 := by omega
      subst hk8
      go_wp2
      go_ret
      exact ⟨by rw [← HBX.out]; rfl, rfl⟩
end Go.Proofs.Ytdlalpklopnpjaa
