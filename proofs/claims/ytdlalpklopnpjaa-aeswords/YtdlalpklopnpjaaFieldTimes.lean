/- The program's doubled and Times. -/
import Derived.Test.YtdlalpklopnpjaaFieldMath
import Derived.Test.YtdlalpklopnpjaaBlocks
namespace Go.Proofs.Ytdlalpklopnpjaa
open Go.RowKit

/-- A byte as a number. -/
def b8 (x : B8) : Nat := x.toNat
theorem b8_lt (x : B8) : b8 x < 256 := x.isLt
theorem b8_of (n : Nat) (h : n < 256) : b8 (BitVec.ofNat 8 n) = n := by unfold b8; simp; omega
theorem b8_inj {x y : B8} (h : b8 x = b8 y) : x = y := BitVec.eq_of_toNat_eq h
theorem b8_get (n : Nat) (h : n < 256) : ∃ x : B8, n = b8 x := ⟨BitVec.ofNat 8 n, (b8_of n h).symm⟩
theorem xor_b8 (a b : B8) : bits .xor .u8 (b8 a : Int) (b8 b : Int) = (b8 (a ^^^ b) : Int) := by
  rw [u8_xor_nat _ _ (b8_lt a) (b8_lt b)]; unfold b8; rw [BitVec.toNat_xor]
theorem dbl_low (a : B8) (h : a.getLsbD 7 = false) : bits .and .u8 (b8 a : Int) 128 = 0 ∧ (b8 a : Int) * 2 % 256 = (b8 (dbl a) : Int) := by
  revert h
  exact all8 (P := fun a => a.getLsbD 7 = false → bits .and .u8 (b8 a : Int) 128 = 0 ∧ (b8 a : Int) * 2 % 256 = (b8 (dbl a) : Int)) (by decide +kernel) a
theorem dbl_high (a : B8) (h : a.getLsbD 7 = true) : bits .and .u8 (b8 a : Int) 128 = 128 ∧ bits .xor .u8 ((b8 a : Int) * 2 % 256) 27 = (b8 (dbl a) : Int) := by
  revert h
  exact all8 (P := fun a => a.getLsbD 7 = true → bits .and .u8 (b8 a : Int) 128 = 128 ∧ bits .xor .u8 ((b8 a : Int) * 2 % 256) 27 = (b8 (dbl a) : Int)) (by decide +kernel) a

theorem bit_at (b : B8) (k : Nat) (h : k < 8) : bits .and .u8 ((b8 b : Int) / 2 ^ k) 1 = (if b.getLsbD k then 1 else 0) := by
  revert b
  revert h
  revert k
  have e : ∀ k, k < 8 → ∀ n, n < 256 → bits .and .u8 ((b8 (BitVec.ofNat 8 n) : Int) / 2 ^ k) 1 = (if (BitVec.ofNat 8 n).getLsbD k then 1 else 0) := by decide +kernel
  intro k h
  exact all8 (e k h)
theorem doubled_any (a : B8) (w : World) :
    Calls Try.prog 62 #[.int .u8 (b8 a)] w fun e w' => e = .returned (.int .u8 (b8 (dbl a))) ∧ w' = w := by
  have ha := b8_lt a
  cases h : a.getLsbD 7
  · obtain ⟨h1, h2⟩ := dbl_low a h
    go_enter Try.func62, Try.ntmps62
    go_wp2
    go_ret
    refine ⟨?_, rfl⟩
    rw [← h2]; rfl
  · obtain ⟨h1, h2⟩ := dbl_high a h
    go_enter Try.func62, Try.ntmps62
    go_wp2
    go_ret
    exact ⟨rfl, rfl⟩
theorem accBit (a b : B8) (k : Nat) (h : b.getLsbD k = true) : bits .xor .u8 (b8 (acc a b k) : Int) (b8 (dbls k a) : Int) = (b8 (acc a b (k + 1)) : Int) := by
  rw [xor_b8]; show _ = ((b8 (acc a b k ^^^ cx (b.getLsbD k) (dbls k a)) : Nat) : Int); rw [h]; rfl
theorem accNot (a b : B8) (k : Nat) (h : b.getLsbD k = false) : acc a b (k + 1) = acc a b k := by
  show acc a b k ^^^ cx (b.getLsbD k) (dbls k a) = _; rw [h]; exact BitVec.xor_zero
set_option maxHeartbeats 1000000 in
theorem times_any (a b : B8) (w : World) :
    Calls Try.prog 53 #[.int .u8 (b8 a), .int .u8 (b8 b)] w fun e w' => e = .returned (.int .u8 (b8 (tm a b))) ∧ w' = w := by
  have HD := Hid.mk' (fun x => doubled_any x w)
  have hb := b8_lt b
  go_enter Try.func53, Try.ntmps53
  go_wp2
  go_loopw [0, 5, 7] (fun x p i wr => ∃ k : Nat, k ≤ 8 ∧ i = .int .i64 k ∧ x = .int .u8 (b8 (dbls k a)) ∧ p = .int .u8 (b8 (acc a b k)) ∧ wr = w) (fun _ _ i _ => 8 - (intOf i).toNat)
  case atStart => exact ⟨0, by decide, rfl, rfl, rfl, rfl⟩
  case round =>
    obtain ⟨k, hk, rfl, rfl, rfl, rfl⟩ := hrel
    by_cases hlt : k < 8
    · have hlti : (k : Int) < 8 := by omega
      have hbit := bit_at b k hlt
      have hx := b8_lt (dbls k a)
      have hp := b8_lt (acc a b k)
      cases hg : b.getLsbD k
      · rw [hg, if_neg (by decide)] at hbit
        have HA := Hid.mk' (accNot a b k hg)
        clear hg
        go_wp2_with fail
        refine Calls.mono (HD.out _) ?_
        rintro e w' ⟨rfl, rfl⟩
        go_wp2
        refine ⟨⟨k + 1, by omega, by go_num, rfl, by rw [HA.out], trivial⟩, by simp [intOf]; omega⟩
      · rw [hg, if_pos rfl] at hbit
        have hacc := accBit a b k hg
        clear hg
        go_wp2_with fail
        refine Calls.mono (HD.out _) ?_
        rintro e w' ⟨rfl, rfl⟩
        go_wp2
        refine ⟨⟨k + 1, by omega, by go_num, rfl, rfl, trivial⟩, by simp [intOf]; omega⟩
    · have hk8 : k = 8 := by omega
      subst hk8
      go_wp2
      go_ret
      exact ⟨rfl, rfl⟩
end Go.Proofs.Ytdlalpklopnpjaa
