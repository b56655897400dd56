/- The reference's Times. -/
import Derived.Test.YtdlalpklopnpjaaFieldTimes
namespace Go.Proofs.Ytdlalpklopnpjaa
open Go.RowKit

theorem i64_xor_small (a b : Nat) (ha : a < 4294967296) (hb : b < 4294967296) : bits .xor .i64 (a : Int) (b : Int) = ((a ^^^ b : Nat) : Int) := by
  have hx : a ^^^ b < 2 ^ 32 := Nat.xor_lt_two_pow (by omega) (by omega)
  show IntKind.i64.wrap ((BitVec.ofInt 64 (a : Int) ^^^ BitVec.ofInt 64 (b : Int)).toNat : Int) = _
  rw [BitVec.toNat_xor, ofInt_u64 a (by omega), ofInt_u64 b (by omega)]
  simp [IntKind.wrap, IntKind.bits, IntKind.signed]
  omega
theorem i64_and_one (a : Nat) (ha : a < 9223372036854775808) : bits .and .i64 (a : Int) 1 = ((a % 2 : Nat) : Int) := by
  show IntKind.i64.wrap ((BitVec.ofInt 64 (a : Int) &&& BitVec.ofInt 64 ((1 : Nat) : Int)).toNat : Int) = _
  rw [BitVec.toNat_and, ofInt_u64 a (by omega), ofInt_u64 1 (by omega), Nat.and_one_is_mod]
  simp [IntKind.wrap, IntKind.bits, IntKind.signed]
  omega
theorem wrap64_small (n : Nat) (h : n < 9223372036854775808) : wrap64 (n : Int) = n := by unfold wrap64; omega
/-- A polynomial as a number. -/
def b16 (x : BitVec 16) : Nat := x.toNat
theorem b16_lt (x : BitVec 16) : b16 x < 65536 := x.isLt
theorem wideBit (a b : B8) (k : Nat) (hk : k < 8) (h : b.getLsbD k = true) : bits .xor .i64 (b16 (wide a b k) : Int) (wrap64 ((b8 a : Int) * 2 ^ k)) = (b16 (wide a b (k + 1)) : Int) := by
  have ha := b8_lt a
  have hp : 2 ^ k ≤ 2 ^ 7 := Nat.pow_le_pow_right (by decide) (by omega)
  have hm : b8 a * 2 ^ k < 65536 := Nat.lt_of_le_of_lt (Nat.mul_le_mul (Nat.le_of_lt ha) hp) (by decide)
  have e := i64_xor_small (b16 (wide a b k)) (b8 a * 2 ^ k) (Nat.lt_trans (b16_lt _) (by decide)) (Nat.lt_trans hm (by decide))
  rw [show ((b8 a : Int) * 2 ^ k) = ((b8 a * 2 ^ k : Nat) : Int) by simp, wrap64_small _ (Nat.lt_trans hm (by decide)), e]
  congr 1
  show _ = b16 (wide a b k ^^^ cx (b.getLsbD k) (a.setWidth 16 <<< k))
  rw [h]
  show _ = (wide a b k ^^^ (a.setWidth 16 <<< k)).toNat
  rw [BitVec.toNat_xor, BitVec.toNat_shiftLeft, BitVec.toNat_setWidth, Nat.shiftLeft_eq]
  have h1 : a.toNat % 2 ^ 16 = b8 a := Nat.mod_eq_of_lt (Nat.lt_trans ha (by decide))
  rw [h1, Nat.mod_eq_of_lt hm]
  rfl
theorem wideNot (a b : B8) (k : Nat) (h : b.getLsbD k = false) : wide a b (k + 1) = wide a b k := by
  show wide a b k ^^^ cx (b.getLsbD k) _ = _; rw [h]; exact BitVec.xor_zero
theorem cut_at (p : BitVec 16) (m : Nat) : bits .and .i64 ((b16 p : Int) / 2 ^ m) 1 = (if p.getLsbD m then 1 else 0) := by
  have e := i64_and_one (b16 p / 2 ^ m) (Nat.lt_of_le_of_lt (Nat.div_le_self _ _) (Nat.lt_trans (b16_lt p) (by decide)))
  rw [show ((b16 p : Int) / 2 ^ m) = ((b16 p / 2 ^ m : Nat) : Int) by simp, e]
  have e2 : p.getLsbD m = decide (b16 p / 2 ^ m % 2 = 1) := by
    show p.toNat.testBit m = _
    rw [Nat.testBit_eq_decide_div_mod_eq]; rfl
  rw [e2]
  by_cases hh : b16 p / 2 ^ m % 2 = 1
  · rw [hh]; rfl
  · have h0 : b16 p / 2 ^ m % 2 = 0 := by omega
    rw [h0]; rfl
theorem cutBit (p : BitVec 16) (q : Nat) (hq : q < 8) (h : (cut p (7 - q)).getLsbD (8 + q) = true) : bits .xor .i64 (b16 (cut p (7 - q)) : Int) (wrap64 (283 * 2 ^ q)) = (b16 (cut p (8 - q)) : Int) := by
  have hp : 2 ^ q ≤ 2 ^ 7 := Nat.pow_le_pow_right (by decide) (by omega)
  have hm : 283 * 2 ^ q < 65536 := Nat.lt_of_le_of_lt (Nat.mul_le_mul (Nat.le_refl 283) hp) (by decide)
  have e := i64_xor_small (b16 (cut p (7 - q))) (283 * 2 ^ q) (Nat.lt_trans (b16_lt _) (by decide)) (Nat.lt_trans hm (by decide))
  rw [show ((283 : Int) * 2 ^ q) = ((283 * 2 ^ q : Nat) : Int) by simp, wrap64_small _ (Nat.lt_trans hm (by decide)), e]
  congr 1
  rw [show 8 - q = (7 - q) + 1 by omega]
  show _ = b16 (cut p (7 - q) ^^^ cx ((cut p (7 - q)).getLsbD (15 - (7 - q))) (283#16 <<< (7 - (7 - q))))
  rw [show 15 - (7 - q) = 8 + q by omega, show 7 - (7 - q) = q by omega, h]
  show _ = (cut p (7 - q) ^^^ (283#16 <<< q)).toNat
  rw [BitVec.toNat_xor, BitVec.toNat_shiftLeft, Nat.shiftLeft_eq]
  rw [show (283#16).toNat = 283 from rfl, Nat.mod_eq_of_lt hm]
  rfl
theorem cutNot (p : BitVec 16) (q : Nat) (hq : q < 8) (h : (cut p (7 - q)).getLsbD (8 + q) = false) : cut p (8 - q) = cut p (7 - q) := by
  rw [show 8 - q = (7 - q) + 1 by omega]
  show cut p (7 - q) ^^^ cx ((cut p (7 - q)).getLsbD (15 - (7 - q))) _ = _
  rw [show 15 - (7 - q) = 8 + q by omega, h]
  exact BitVec.xor_zero
theorem tmr_low (a b : B8) : (b16 (cut (wide a b 8) 8) : Int) % 256 = (b8 (tm a b) : Int) := by
  rw [← tmr_eq]
  show _ = (((cut (wide a b 8) 8).setWidth 8).toNat : Int)
  rw [BitVec.toNat_setWidth]
  rfl
set_option maxHeartbeats 1000000 in
theorem rtimes_any (a b : B8) (w : World) :
    Calls Try.prog 46 #[.int .u8 (b8 a), .int .u8 (b8 b)] w fun e w' => e = .returned (.int .u8 (b8 (tm a b))) ∧ w' = w := by
  have hb := b8_lt b
  have ha := b8_lt a
  go_enter Try.func46, Try.ntmps46
  go_wp2
  go_loopw [5, 6] (fun p i wr => ∃ k : Nat, k ≤ 8 ∧ i = .int .u64 k ∧ p = .int .i64 (b16 (wide a b k)) ∧ wr = w) (fun _ i _ => 8 - (intOf i).toNat)
  case atStart => exact ⟨0, by decide, rfl, rfl, rfl⟩
  case round =>
    obtain ⟨k, hk, rfl, rfl, rfl⟩ := hrel
    by_cases hlt : k < 8
    · have hlti : (k : Int) < 8 := by omega
      have hbit := bit_at b k hlt
      have hp := b16_lt (wide a b k)
      cases hg : b.getLsbD k
      · rw [hg, if_neg (by decide)] at hbit
        have HA := Hid.mk' (wideNot a b k hg)
        clear hg
        go_wp2
        refine ⟨⟨k + 1, by omega, by go_num, by rw [HA.out], trivial⟩, by simp [intOf]; omega⟩
      · rw [hg, if_pos rfl] at hbit
        have hacc := wideBit a b k hlt hg
        clear hg
        go_wp2
        refine ⟨⟨k + 1, by omega, by go_num, rfl, trivial⟩, by simp [intOf]; omega⟩
    · have hk8 : k = 8 := by omega
      subst hk8
      obtain ⟨wm, hwm⟩ : ∃ wm, wm = wr := ⟨_, rfl⟩
      subst hwm
      obtain ⟨P, hP⟩ : ∃ P, P = wide a b 8 := ⟨_, rfl⟩
      have HL := Hid.mk' (tmr_low a b)
      rw [← hP] at HL ⊢
      clear hP
      go_wp2
      go_loopw [5, 7] (fun p i wr => ∃ q : Nat, q ≤ 8 ∧ i = .int .u64 (7 + q : Nat) ∧ p = .int .i64 (b16 (cut P (8 - q))) ∧ wr = wm) (fun _ i _ => (intOf i).toNat)
      case atStart => exact ⟨8, by decide, rfl, rfl, rfl⟩
      case round =>
        obtain ⟨q, hq, rfl, rfl, rfl⟩ := hrel
        by_cases h0 : q = 0
        · subst h0
          have hl := HL.out
          go_wp2
          go_ret
          refine ⟨?_, rfl⟩
          rw [← hl]; rfl
        · obtain ⟨r, rfl⟩ : ∃ r, q = r + 1 := ⟨q - 1, by omega⟩
          have hr : r < 8 := by omega
          obtain ⟨m, hm⟩ : ∃ m, m = 8 + r := ⟨_, rfl⟩
          rw [show 7 + (r + 1) = m by omega, show 8 - (r + 1) = 7 - r by omega]
          have hp := b16_lt (cut P (7 - r))
          have hbit := cut_at (cut P (7 - r)) m
          have hge : (8 : Int) ≤ m := by omega
          have hlt2 : (m : Int) < 16 := by omega
          have hsub : (m : Int) - 8 = r := by omega
          have HM := Hid.mk' hm
          clear hm
          cases hg : (cut P (7 - r)).getLsbD m
          · rw [hg, if_neg (by decide)] at hbit
            have HA := Hid.mk' (cutNot P r hr (by rw [← HM.out]; exact hg))
            clear hg
            go_wp2
            refine ⟨⟨r, by omega, by have hmm := HM.out; go_num, by rw [HA.out], trivial⟩, by have hmm := HM.out; simp [intOf]; omega⟩
          · rw [hg, if_pos rfl] at hbit
            have hacc := cutBit P r hr (by rw [← HM.out]; exact hg)
            clear hg
            go_wp2
            refine ⟨⟨r, by omega, by have hmm := HM.out; go_num, rfl, trivial⟩, by have hmm := HM.out; simp [intOf]; omega⟩
end Go.Proofs.Ytdlalpklopnpjaa
