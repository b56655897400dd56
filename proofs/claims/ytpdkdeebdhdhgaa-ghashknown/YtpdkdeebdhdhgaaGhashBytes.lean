/- Sixteen bytes as polynomials. -/
import Derived.Test.YtpdkdeebdhdhgaaGhashMath
import Derived.Test.YtpdkdeebdhdhgaaAesMath
namespace Go.Proofs.Ytpdkdeebdhdhgaa
open Go.RowKit

/-- The coefficient of x^i. -/
def coef (l : List B8) (i : Nat) : Bool := (at8 l (i / 8)).getLsbD (7 - i % 8)
/-- The polynomial of a function of its coefficients, of the first n. -/
def polyOf (f : Nat → Bool) : Nat → G
  | 0 => 0
  | n + 1 => polyOf f n ^^^ cx (f n) (xi n)
theorem polyOf_bit (f : Nat → Bool) (n : Nat) (hn : n ≤ 128) (j : Nat) : (polyOf f n).getLsbD j = (decide (j < n) && f j) := by
  induction n with
  | zero => simp [polyOf]
  | succ n ih =>
    show (polyOf f n ^^^ cx (f n) (xi n)).getLsbD j = _
    rw [BitVec.getLsbD_xor, ih (by omega)]
    have e : (cx (f n) (xi n)).getLsbD j = (f n && decide (j = n)) := by
      cases hb : f n
      · simp [cx]
      · simp [cx, xi_bit n j (by omega)]
    rw [e]
    by_cases h1 : j = n
    · subst h1; simp
    · by_cases h2 : j < n
      · simp [h1, h2, show j < n + 1 by omega]
      · simp [h1, h2, show ¬ j < n + 1 by omega]
def toG (l : List B8) : G := polyOf (coef l) 128
theorem toG_bit (l : List B8) (i : Nat) (h : i < 128) : (toG l).getLsbD i = coef l i := by
  unfold toG
  rw [polyOf_bit _ _ (Nat.le_refl _)]
  simp [h]
/-- A byte of bits. -/
def byteOf (f : Nat → Bool) : Nat → B8
  | 0 => 0
  | n + 1 => byteOf f n ^^^ cx (f n) (BitVec.twoPow 8 n)
theorem byteOf_bit (f : Nat → Bool) (n : Nat) (hn : n ≤ 8) (j : Nat) : (byteOf f n).getLsbD j = (decide (j < n) && f j) := by
  induction n with
  | zero => simp [byteOf]
  | succ n ih =>
    show (byteOf f n ^^^ cx (f n) (BitVec.twoPow 8 n)).getLsbD j = _
    rw [BitVec.getLsbD_xor, ih (by omega)]
    have e : (cx (f n) (BitVec.twoPow 8 n)).getLsbD j = (f n && decide (j = n)) := by
      cases hb : f n
      · simp [cx]
      · simp only [cx, if_true, BitVec.getLsbD_twoPow]
        by_cases h : j = n
        · subst h; simp; omega
        · simp [h, Ne.symm h]
    rw [e]
    by_cases h1 : j = n
    · subst h1; simp
    · by_cases h2 : j < n
      · simp [h1, h2, show j < n + 1 by omega]
      · simp [h1, h2, show ¬ j < n + 1 by omega]
def ofG (g : G) : List B8 := mk16 fun k => byteOf (fun j => g.getLsbD (8 * k + (7 - j))) 8
theorem ofG_len (g : G) : (ofG g).length = 16 := mk16_len _
theorem coef_ofG (g : G) (i : Nat) (h : i < 128) : coef (ofG g) i = g.getLsbD i := by
  unfold coef ofG
  rw [mk16_at _ _ (by omega), byteOf_bit _ _ (Nat.le_refl _)]
  rw [show 8 * (i / 8) + (7 - (7 - i % 8)) = i by omega]
  simp; omega
theorem toG_ofG (g : G) : toG (ofG g) = g := by
  apply BitVec.eq_of_getLsbD_eq
  intro i hi
  rw [toG_bit _ i hi, coef_ofG g i hi]
theorem coef_ext {a b : List B8} (ha : a.length = 16) (hb : b.length = 16) (h : ∀ i, i < 128 → coef a i = coef b i) : a = b := by
  refine at8_ext ha hb (fun k hk => ?_)
  apply BitVec.eq_of_getLsbD_eq
  intro j hj
  have := h (8 * k + (7 - j)) (by omega)
  unfold coef at this
  rwa [show (8 * k + (7 - j)) / 8 = k by omega, show 7 - (8 * k + (7 - j)) % 8 = j by omega] at this
theorem toG_inj {a b : List B8} (ha : a.length = 16) (hb : b.length = 16) (h : toG a = toG b) : a = b :=
  coef_ext ha hb (fun i hi => by rw [← toG_bit a i hi, ← toG_bit b i hi, h])
theorem ofG_toG {a : List B8} (ha : a.length = 16) : ofG (toG a) = a := toG_inj (ofG_len _) ha (toG_ofG _)
/-- Sums, byte by byte. -/
def gadd (a b : List B8) : List B8 := mk16 fun i => at8 a i ^^^ at8 b i
theorem gadd_len (a b : List B8) : (gadd a b).length = 16 := mk16_len _
theorem toG_gadd (a b : List B8) : toG (gadd a b) = toG a ^^^ toG b := by
  apply BitVec.eq_of_getLsbD_eq
  intro i hi
  rw [BitVec.getLsbD_xor, toG_bit _ i hi, toG_bit _ i hi, toG_bit _ i hi]
  unfold coef gadd
  rw [mk16_at _ _ (by omega), BitVec.getLsbD_xor]
def gzero : List B8 := List.replicate 16 0
theorem gzero_at (i : Nat) : at8 gzero i = 0 := by
  unfold at8 gzero List.getD
  rw [List.getElem?_replicate]
  split <;> rfl
theorem toG_zero : toG gzero = 0#128 := by
  apply BitVec.eq_of_getLsbD_eq
  intro i hi
  rw [toG_bit _ i hi]
  unfold coef
  rw [gzero_at]
  simp
/-- The product of sixteen bytes and sixteen. -/
def gtimes (a b : List B8) : List B8 := ofG (gm (toG a) (toG b))
theorem gtimes_len (a b : List B8) : (gtimes a b).length = 16 := ofG_len _
theorem toG_gtimes (a b : List B8) : toG (gtimes a b) = gm (toG a) (toG b) := toG_ofG _
end Go.Proofs.Ytpdkdeebdhdhgaa
