/- Elements of the great field as two words of 64 bits. -/
import Derived.Test.YtpdkdeebdhdhgaaGhashRingMath
namespace Go.Proofs.Ytpdkdeebdhdhgaa
open Go.RowKit

abbrev W64 := BitVec 64
def fw (g : G) : W64 := g.reverse.extractLsb' 64 64
def sw (g : G) : W64 := g.reverse.extractLsb' 0 64
theorem fw_bit (g : G) (j : Nat) (h : j < 64) : (fw g).getLsbD j = g.getLsbD (63 - j) := by
  unfold fw
  rw [BitVec.getLsbD_extractLsb', BitVec.getLsbD_reverse, BitVec.getMsbD_eq_getLsbD, decide_eq_true h, decide_eq_true (show 64 + j < 128 by omega), show 128 - 1 - (64 + j) = 63 - j by omega]
  rfl
theorem sw_bit (g : G) (j : Nat) (h : j < 64) : (sw g).getLsbD j = g.getLsbD (127 - j) := by
  unfold sw
  rw [BitVec.getLsbD_extractLsb', BitVec.getLsbD_reverse, BitVec.getMsbD_eq_getLsbD, decide_eq_true h, decide_eq_true (show 0 + j < 128 by omega), show 128 - 1 - (0 + j) = 127 - j by omega]
  rfl
theorem fw_xor (a b : G) : fw (a ^^^ b) = fw a ^^^ fw b := by
  apply BitVec.eq_of_getLsbD_eq
  intro j hj
  rw [fw_bit _ j hj, BitVec.getLsbD_xor, BitVec.getLsbD_xor, fw_bit _ j hj, fw_bit _ j hj]
theorem sw_xor (a b : G) : sw (a ^^^ b) = sw a ^^^ sw b := by
  apply BitVec.eq_of_getLsbD_eq
  intro j hj
  rw [sw_bit _ j hj, BitVec.getLsbD_xor, BitVec.getLsbD_xor, sw_bit _ j hj, sw_bit _ j hj]
theorem fw_zero : fw 0#128 = 0#64 := by
  apply BitVec.eq_of_getLsbD_eq
  intro j hj
  rw [fw_bit _ j hj, BitVec.getLsbD_zero, BitVec.getLsbD_zero]
theorem sw_zero : sw 0#128 = 0#64 := by
  apply BitVec.eq_of_getLsbD_eq
  intro j hj
  rw [sw_bit _ j hj, BitVec.getLsbD_zero, BitVec.getLsbD_zero]
/-- A word all of whose bits are one. -/
def msk (b : Bool) : W64 := if b then BitVec.allOnes 64 else 0#64
theorem fw_msk (b : Bool) (a : G) : fw (cx b a) = fw a &&& msk b := by
  cases b
  · show fw 0#128 = fw a &&& 0#64
    rw [fw_zero, BitVec.and_zero]
  · show fw a = fw a &&& BitVec.allOnes 64
    rw [BitVec.and_allOnes]
theorem sw_msk (b : Bool) (a : G) : sw (cx b a) = sw a &&& msk b := by
  cases b
  · show sw 0#128 = sw a &&& 0#64
    rw [sw_zero, BitVec.and_zero]
  · show sw a = sw a &&& BitVec.allOnes 64
    rw [BitVec.and_allOnes]
theorem mx_bit (a : G) (j : Nat) (h : j < 128) : (mx a).getLsbD j = ((decide (1 ≤ j) && a.getLsbD (j - 1)) ^^ (a.getLsbD 127 && (0x87#128).getLsbD j)) := by
  unfold mx
  rw [BitVec.getLsbD_xor, BitVec.getLsbD_shiftLeft, decide_eq_true h]
  congr 1
  · by_cases h1 : 1 ≤ j
    · simp [h1, show ¬ j < 1 by omega]
    · simp [h1, show j < 1 by omega]
  · cases a.getLsbD 127
    · simp [cx]
    · simp [cx]
theorem low_87 : ∀ j, j < 128 → 64 ≤ j → (0x87#128).getLsbD j = false := by decide
theorem top_e1 : ∀ j, j < 64 → (0xe100000000000000#64).getLsbD j = (0x87#128).getLsbD (63 - j) := by decide
theorem sw_mx (a : G) : sw (mx a) = fw a <<< 63 ||| sw a >>> 1 := by
  apply BitVec.eq_of_getLsbD_eq
  intro j hj
  rw [sw_bit _ j hj, mx_bit _ _ (by omega), low_87 _ (by omega) (by omega), BitVec.getLsbD_or, BitVec.getLsbD_shiftLeft, BitVec.getLsbD_ushiftRight]
  by_cases h : j = 63
  · subst h
    have e : (sw a).getLsbD (1 + 63) = false := BitVec.getLsbD_of_ge _ _ (by decide)
    rw [e, fw_bit _ _ (by decide)]
    simp
  · rw [sw_bit _ (1 + j) (by omega), show 127 - (1 + j) = 127 - j - 1 by omega, decide_eq_true (show 1 ≤ 127 - j by omega), decide_eq_true (show j < 63 by omega)]
    simp
theorem fw_mx (a : G) : fw (mx a) = (fw a >>> 1) ^^^ (cx ((sw a).getLsbD 0) 0xe100000000000000#64) := by
  apply BitVec.eq_of_getLsbD_eq
  intro j hj
  have e2 : (cx ((sw a).getLsbD 0) 0xe100000000000000#64).getLsbD j = (a.getLsbD 127 && (0x87#128).getLsbD (63 - j)) := by
    rw [sw_bit _ 0 (by decide), ← top_e1 j hj]
    cases a.getLsbD (127 - 0)
    · simp [cx]
    · simp [cx]
  rw [fw_bit _ j hj, mx_bit _ _ (by omega), BitVec.getLsbD_xor, BitVec.getLsbD_ushiftRight, e2]
  congr 1
  by_cases h : j = 63
  · subst h
    have e : (fw a).getLsbD (1 + 63) = false := BitVec.getLsbD_of_ge _ _ (by decide)
    rw [e]; simp
  · rw [fw_bit _ (1 + j) (by omega), show 63 - (1 + j) = 63 - j - 1 by omega, decide_eq_true (show 1 ≤ 63 - j by omega)]
    simp
theorem fw_top (e : G) (i : Nat) (h : i < 64) : (fw e <<< i).getLsbD 63 = e.getLsbD i := by
  rw [BitVec.getLsbD_shiftLeft, fw_bit _ _ (by omega), show 63 - (63 - i) = i by omega]
  simp; omega
theorem sw_top (e : G) (i : Nat) (h : i < 64) : (sw e <<< i).getLsbD 63 = e.getLsbD (64 + i) := by
  rw [BitVec.getLsbD_shiftLeft, sw_bit _ _ (by omega), show 127 - (63 - i) = 64 + i by omega]
  simp; omega
theorem sumBits_split {m : Nat} (f : Nat → BitVec m) (b : G) (n : Nat) : sumBits f b (64 + n) = sumBits f b 64 ^^^ sumBits (fun j => f (64 + j)) (b >>> 64) n := by
  induction n with
  | zero => simp [sumBits]
  | succ n ih =>
    show sumBits f b (64 + n) ^^^ cx (b.getLsbD (64 + n)) (f (64 + n)) = _ ^^^ (sumBits (fun j => f (64 + j)) (b >>> 64) n ^^^ cx ((b >>> 64).getLsbD n) (f (64 + n)))
    rw [ih, BitVec.getLsbD_ushiftRight, BitVec.xor_assoc]
/-- The sum that times grows: bits i and 64 + i together. -/
def two (h e : G) (i : Nat) : G := sumBits (fun j => mxs j h) e i ^^^ sumBits (fun j => mxs (64 + j) h) (e >>> 64) i
theorem two_zero (h e : G) : two h e 0 = 0#128 := by simp [two, sumBits]
theorem two_next (h e : G) (i : Nat) : two h e (i + 1) = two h e i ^^^ cx (e.getLsbD i) (mxs i h) ^^^ cx (e.getLsbD (64 + i)) (mxs (64 + i) h) := by
  show (sumBits (fun j => mxs j h) e i ^^^ cx (e.getLsbD i) (mxs i h)) ^^^ (sumBits (fun j => mxs (64 + j) h) (e >>> 64) i ^^^ cx ((e >>> 64).getLsbD i) (mxs (64 + i) h)) = _
  rw [BitVec.getLsbD_ushiftRight]
  unfold two
  ac_rfl
theorem two_all (h e : G) : two h e 64 = gm e h := by
  rw [gm_comm]
  exact (sumBits_split (fun j => mxs j h) e 64).symm
/-- Numbers of bytes, the highest first. -/
def val (zs : List Nat) : Nat := zs.foldl (fun a z => 256 * a + z) 0
theorem val_snoc (zs : List Nat) (z : Nat) : val (zs ++ [z]) = 256 * val zs + z := by unfold val; rw [List.foldl_append]; rfl
theorem val_next (zs : List Nat) (k : Nat) (h : k < zs.length) : val (zs.take (k + 1)) = 256 * val (zs.take k) + zs.getD k 0 := by rw [take_next' zs k h, val_snoc]
theorem val_bit (l : List B8) (j : Nat) : ∀ k, k ≤ l.length → (val ((nts l).take k)).testBit j = (decide (j < 8 * k) && (at8 l (k - 1 - j / 8)).getLsbD (j % 8))
  | 0, _ => by simp [val]
  | k + 1, h => by
    have e : (nts l).getD k 0 = b8 (at8 l k) := by
      unfold List.getD
      rw [nts_at l k (by omega)]; rfl
    rw [val_next _ k (by rw [nts_len]; omega), e]
    have hb : b8 (at8 l k) < 2 ^ 8 := b8_lt _
    rw [show (256 : Nat) = 2 ^ 8 by rfl, Nat.testBit_two_pow_mul_add _ hb]
    by_cases hj : j < 8
    · rw [if_pos hj, show k + 1 - 1 - j / 8 = k by omega, show j % 8 = j by omega]
      unfold b8
      simp [BitVec.getLsbD, show j < 8 * (k + 1) by omega]
    · rw [if_neg hj]
      have hs : (val ((nts l).take k)).testBit (j - 8) = (decide (j - 8 < 8 * k) && (at8 l (k - 1 - (j - 8) / 8)).getLsbD ((j - 8) % 8)) := by
        have := val_bit l (j - 8) k (by omega)
        exact this
      rw [hs, show k - 1 - (j - 8) / 8 = k + 1 - 1 - j / 8 by omega, show (j - 8) % 8 = j % 8 by omega]
      congr 1
      simp; omega
theorem fw_val {a : List B8} (h : a.length = 16) : (fw (toG a)).toNat = val ((nts a).take 8) := by
  apply Nat.eq_of_testBit_eq
  intro j
  rw [val_bit a j 8 (by omega)]
  by_cases hj : j < 64
  · have e : (fw (toG a)).toNat.testBit j = (fw (toG a)).getLsbD j := rfl
    rw [e, fw_bit _ j hj, toG_bit _ _ (by omega)]
    unfold coef
    rw [show (63 - j) / 8 = 8 - 1 - j / 8 by omega, show 7 - (63 - j) % 8 = j % 8 by omega]
    simp; omega
  · have e : (fw (toG a)).toNat.testBit j = (fw (toG a)).getLsbD j := rfl
    rw [e, BitVec.getLsbD_of_ge _ _ (by omega)]
    simp; omega
theorem sw_val {a : List B8} (h : a.length = 16) : (sw (toG a)).toNat = val (((nts a).drop 8).take 8) := by
  have ed : (nts a).drop 8 = nts (a.drop 8) := by simp [nts, List.map_drop]
  apply Nat.eq_of_testBit_eq
  intro j
  rw [ed, val_bit (a.drop 8) j 8 (by rw [List.length_drop]; omega)]
  by_cases hj : j < 64
  · have e : (sw (toG a)).toNat.testBit j = (sw (toG a)).getLsbD j := rfl
    rw [e, sw_bit _ j hj, toG_bit _ _ (by omega)]
    unfold coef
    have e2 : at8 (a.drop 8) (8 - 1 - j / 8) = at8 a ((127 - j) / 8) := by
      unfold at8 List.getD
      rw [List.getElem?_drop, show 8 + (8 - 1 - j / 8) = (127 - j) / 8 by omega]
    rw [e2, show 7 - (127 - j) % 8 = j % 8 by omega]
    simp; omega
  · have e : (sw (toG a)).toNat.testBit j = (sw (toG a)).getLsbD j := rfl
    rw [e, BitVec.getLsbD_of_ge _ _ (by omega)]
    simp; omega
end Go.Proofs.Ytpdkdeebdhdhgaa
