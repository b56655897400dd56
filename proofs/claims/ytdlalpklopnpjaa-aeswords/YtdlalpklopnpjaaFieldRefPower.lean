/- The reference's Inverse and Power. -/
import Derived.Test.YtdlalpklopnpjaaFieldPower
namespace Go.Proofs.Ytdlalpklopnpjaa
open Go.RowKit

set_option maxHeartbeats 1000000 in
theorem rinverse_any (a : B8) (w : World) :
    Calls Try.prog 60 #[.int .u8 (b8 a)] w fun e w' => e = .returned (.int .u8 (b8 (inv a))) ∧ w' = w := by
  have H := Hid.mk' (fun x y => rtimes_any x y w)
  go_enter Try.func60, Try.ntmps60
  go_wp2
  go_loopw [3] (fun i wr => ∃ k : Nat, k ≤ 256 ∧ 1 ≤ k ∧ i = .int .i64 k ∧ (∀ x : B8, 1 ≤ b8 x → b8 x < k → tm a x ≠ 1#8) ∧ wr = w) (fun i _ => 256 - (intOf i).toNat)
  case atStart => exact ⟨1, by decide, by decide, rfl, fun x h1 h2 => by omega, rfl⟩
  case round =>
    obtain ⟨k, hk, hk1, rfl, hno, rfl⟩ := hrel
    have HN := Hid.mk' hno
    clear hno
    by_cases hlt : k < 256
    · obtain ⟨I, rfl⟩ := b8_get k hlt
      have hlti : (b8 I : Int) < 256 := by omega
      by_cases h1 : tm a I = 1#8
      · have e : I = inv a := inv_of h1
        have heq : ((b8 (tm a I) : Int) == 1) = true := by rw [h1]; rfl
        have HE := Hid.mk' e
        clear h1 e
        go_wp2_with fail
        refine Calls.mono (H.out a I) ?_
        rintro e w1 ⟨rfl, hw⟩
        have hw' := hw.symm
        subst hw'
        go_wp2
        go_ret
        exact ⟨by rw [← HE.out]; rfl, rfl⟩
      · have hne : ((b8 (tm a I) : Int) == 1) = false := by
          rw [beq_eq_false_iff_ne]
          intro e
          exact h1 (b8_inj (show b8 (tm a I) = 1 by omega))
        have HE := Hid.mk' h1
        clear h1
        go_wp2_with fail
        refine Calls.mono (H.out a I) ?_
        rintro e w1 ⟨rfl, hw⟩
        have hw' := hw.symm
        subst hw'
        go_wp2
        refine ⟨⟨b8 I + 1, by omega, by omega, by go_num, ?_, trivial⟩, by simp [intOf]; omega⟩
        intro x h1 h2
        by_cases hx : b8 x < b8 I
        · exact HN.out x h1 hx
        · have e : x = I := b8_inj (by omega)
          rw [e]; exact HE.out
    · have hk6 : k = 256 := by omega
      subst hk6
      have hz : inv a = 0#8 := by
        by_cases h0 : a = 0#8
        · rw [h0]; exact inv_zero
        · exfalso
          have hi := inv_ne h0
          have hp : 1 ≤ b8 (inv a) := by
            rcases Nat.eq_zero_or_pos (b8 (inv a)) with h | h
            · exact absurd (b8_inj (y := 0) h) hi
            · exact h
          exact HN.out (inv a) hp (b8_lt _) (tm_inv a h0)
      have HZ := Hid.mk' hz
      clear hz HN
      go_wp2
      go_ret
      exact ⟨by rw [HZ.out]; rfl, rfl⟩
set_option maxHeartbeats 1000000 in
theorem rpower_any (a : B8) (N : Int) (h1 : -9223372036854775808 ≤ N) (h2 : N < 9223372036854775808) (w : World) :
    Calls Try.prog 22 #[.int .u8 (b8 a), .int .i64 N] w fun e w' => e = .returned (.int .u8 (b8 (pw a N.toNat))) ∧ w' = w := by
  have H := Hid.mk' (fun x y => rtimes_any x y w)
  by_cases c1 : N < 1
  · rw [show N.toNat = 0 by omega]
    clear h1 h2
    go_enter Try.func22, Try.ntmps22
    go_wp2
    go_ret
    exact ⟨rfl, rfl⟩
  · by_cases c2 : a = 0#8
    · subst c2
      rw [show pw 0#8 N.toNat = 0#8 from pw_zero _ (by omega)]
      clear h1 h2
      go_enter Try.func22, Try.ntmps22
      go_wp2
      go_ret
      exact ⟨rfl, rfl⟩
    · have hne : ((b8 a : Int) == 0) = false := by
        rw [beq_eq_false_iff_ne]
        intro e
        exact c2 (b8_inj (show b8 a = 0 by omega))
      obtain ⟨m, hm⟩ : ∃ m : Nat, N = (m : Int) := ⟨N.toNat, by omega⟩
      have hr : Int.tmod N 255 = ((m % 255 : Nat) : Int) := by rw [hm, Int.tmod_eq_emod_of_nonneg (by omega)]; omega
      rw [show pw a N.toNat = pw a (m % 255) by rw [pw_mod a c2, show N.toNat = m by omega]]
      have hq : m % 255 < 255 := by omega
      generalize m % 255 = q at *
      clear hm c2 h1 h2
      go_enter Try.func22, Try.ntmps22
      go_wp2
      go_loopw [5, 6] (fun p i wr => ∃ k : Nat, k ≤ q ∧ i = .int .i64 k ∧ p = .int .u8 (b8 (pw a k)) ∧ wr = w) (fun _ i _ => q - (intOf i).toNat)
      case atStart => exact ⟨0, by omega, rfl, rfl, rfl⟩
      case round =>
        obtain ⟨k, hk, rfl, rfl, rfl⟩ := hrel
        by_cases hlt : k < q
        · have hlti : (k : Int) < (q : Int) := by omega
          go_wp2_with fail
          refine Calls.mono (H.out (pw a k) a) ?_
          rintro e w1 ⟨rfl, hw⟩
          have hw' := hw.symm
          subst hw'
          go_wp2
          refine ⟨⟨k + 1, by omega, by go_num, rfl, trivial⟩, by simp [intOf]; omega⟩
        · have hkq : k = q := by omega
          subst hkq
          go_wp2
          go_ret
          exact ⟨rfl, rfl⟩
end Go.Proofs.Ytdlalpklopnpjaa
