/- Bits in a row of 256, taken down to 128. -/
import Derived.Test.YtpdkdeebdhdhgaaRefBit
namespace Go.Proofs.Ytpdkdeebdhdhgaa
open Go.RowKit

/-- The row of the bits f. -/
def bl (f : Nat → Bool) : List Nat := (List.range 256).map fun t => bo (f t)
theorem bl_len (f : Nat → Bool) : (bl f).length = 256 := by simp [bl]
theorem bl_at (f : Nat → Bool) (t : Nat) (h : t < 256) : (bl f)[t]? = some (bo (f t)) := by simp [bl, h]
def updB (f : Nat → Bool) (s : Nat) (c : Bool) : Nat → Bool := fun t => if t = s then c else f t
theorem bl_set (f : Nat → Bool) (s : Nat) (c : Bool) : (bl f).set s (bo c) = bl (updB f s c) := by
  apply List.ext_getElem?
  intro t
  by_cases ht : t < 256
  · rw [bl_at _ t ht]
    by_cases h : t = s
    · subst h; rw [List.getElem?_set_self (by rw [bl_len]; exact ht)]; simp [updB]
    · rw [List.getElem?_set_ne (fun e => h e.symm), bl_at _ t ht]; simp [updB, h]
  · rw [List.getElem?_eq_none (by simp [bl_len]; omega), List.getElem?_eq_none (by simp [bl_len]; omega)]
theorem bl_zero : bl (fun _ => false) = List.replicate 256 0 := by
  apply List.ext_getElem?
  intro t
  by_cases ht : t < 256
  · rw [bl_at _ t ht, List.getElem?_replicate, if_pos ht]; rfl
  · rw [List.getElem?_eq_none (by simp [bl_len]; omega), List.getElem?_eq_none (by rw [List.length_replicate]; omega)]
/-- What the bits come to. -/
def redF (f : Nat → Bool) : Nat → G
  | 0 => 0
  | n + 1 => redF f n ^^^ cx (f n) (mxs n 1#128)
theorem redF_congr {f g : Nat → Bool} (n : Nat) (h : ∀ t, t < n → f t = g t) : redF f n = redF g n := by
  induction n with
  | zero => rfl
  | succ n ih =>
    show redF f n ^^^ cx (f n) _ = redF g n ^^^ cx (g n) _
    rw [ih (fun t ht => h t (by omega)), h n (by omega)]
theorem redF_flip (f : Nat → Bool) (s : Nat) (c : Bool) (n : Nat) (h : s < n) : redF (updB f s (f s ^^ c)) n = redF f n ^^^ cx c (mxs s 1#128) := by
  induction n with
  | zero => omega
  | succ n ih =>
    show redF (updB f s (f s ^^ c)) n ^^^ cx (updB f s (f s ^^ c) n) (mxs n 1#128) = (redF f n ^^^ cx (f n) (mxs n 1#128)) ^^^ cx c (mxs s 1#128)
    by_cases hn : n = s
    · subst hn
      rw [redF_congr n (g := f) (fun t ht => by simp [updB]; omega)]
      have e : updB f n (f n ^^ c) n = (f n ^^ c) := by simp [updB]
      rw [e, cx_xor, BitVec.xor_assoc]
    · rw [ih (by omega)]
      have e : updB f s (f s ^^ c) n = f n := by simp [updB, hn]
      rw [e, BitVec.xor_assoc, BitVec.xor_assoc, BitVec.xor_comm (cx c _)]
theorem redF_zero (n : Nat) : redF (fun _ => false) n = 0#128 := by
  induction n with
  | zero => rfl
  | succ n ih =>
    show redF (fun _ => false) n ^^^ cx false _ = _
    rw [ih, show cx false (mxs n 1#128) = 0#128 from rfl]
    exact BitVec.xor_zero
theorem redF_low (f : Nat → Bool) (n : Nat) (hn : n ≤ 128) : redF f n = polyOf f n := by
  induction n with
  | zero => rfl
  | succ n ih =>
    show redF f n ^^^ cx (f n) (mxs n 1#128) = polyOf f n ^^^ cx (f n) (xi n)
    rw [ih (by omega), unit_xi n (by omega)]
theorem redF_top (f : Nat → Bool) (h : ∀ t, 128 ≤ t → f t = false) (n : Nat) (hn : 128 ≤ n) : redF f n = redF f 128 := by
  induction n with
  | zero => omega
  | succ n ih =>
    by_cases e : n + 1 = 128
    · rw [e]
    · show redF f n ^^^ cx (f n) _ = _
      rw [ih (by omega), h n (by omega)]
      exact BitVec.xor_zero
theorem x128 : mxs 128 1#128 = mxs 0 1#128 ^^^ mxs 1 1#128 ^^^ mxs 2 1#128 ^^^ mxs 7 1#128 := by decide +kernel
theorem x128s (s : Nat) : mxs (s + 128) 1#128 = mxs s 1#128 ^^^ mxs (s + 1) 1#128 ^^^ mxs (s + 2) 1#128 ^^^ mxs (s + 7) 1#128 := by
  rw [mxs_plus, x128, mxs_add, mxs_add, mxs_add, ← mxs_plus, ← mxs_plus, ← mxs_plus, ← mxs_plus]
  rfl
/-- One step down. -/
def downF (f : Nat → Bool) (s : Nat) : Nat → Bool :=
  let f1 := updB f (s + 128) false
  let f2 := updB f1 s (f1 s ^^ true)
  let f3 := updB f2 (s + 1) (f2 (s + 1) ^^ true)
  let f4 := updB f3 (s + 2) (f3 (s + 2) ^^ true)
  updB f4 (s + 7) (f4 (s + 7) ^^ true)
theorem downF_red (f : Nat → Bool) (s : Nat) (hs : s < 128) (h : f (s + 128) = true) : redF (downF f s) 256 = redF f 256 := by
  unfold downF
  simp only
  rw [redF_flip _ (s + 7) true 256 (by omega), redF_flip _ (s + 2) true 256 (by omega), redF_flip _ (s + 1) true 256 (by omega), redF_flip _ s true 256 (by omega)]
  have e : updB f (s + 128) false = updB f (s + 128) (f (s + 128) ^^ true) := by rw [h]; rfl
  rw [e, redF_flip _ (s + 128) true 256 (by omega), x128s s]
  show redF f 256 ^^^ (mxs s 1#128 ^^^ mxs (s + 1) 1#128 ^^^ mxs (s + 2) 1#128 ^^^ mxs (s + 7) 1#128) ^^^ mxs s 1#128 ^^^ mxs (s + 1) 1#128 ^^^ mxs (s + 2) 1#128 ^^^ mxs (s + 7) 1#128 = _
  have g : ∀ r p q u v : G, r ^^^ (p ^^^ q ^^^ u ^^^ v) ^^^ p ^^^ q ^^^ u ^^^ v = r ^^^ ((p ^^^ p) ^^^ (q ^^^ q) ^^^ (u ^^^ u) ^^^ (v ^^^ v)) := by intros; ac_rfl
  rw [g]
  simp
theorem downF_top (f : Nat → Bool) (s : Nat) (h : ∀ t, s + 128 < t → f t = false) : ∀ t, s + 127 < t → downF f s t = false := by
  intro t ht
  unfold downF
  simp only [updB]
  rw [if_neg (by omega), if_neg (by omega), if_neg (by omega), if_neg (by omega)]
  by_cases e : t = s + 128
  · rw [if_pos e]
  · rw [if_neg e]; exact h t (by omega)

/-- What the first k products of one coefficient come to. -/
def rowSum (b : List B8) (i : Nat) : Nat → G
  | 0 => 0
  | k + 1 => rowSum b i k ^^^ cx (coef b k) (mxs (i + k) 1#128)
theorem rowSum_all (b : List B8) (i : Nat) : rowSum b i 128 = mxs i (toG b) := by
  have key : ∀ n, n ≤ 128 → rowSum b i n = mxs i (polyOf (coef b) n) := by
    intro n hn
    induction n with
    | zero => exact ((mxs_add i).zero).symm
    | succ n ih =>
      show rowSum b i n ^^^ cx (coef b n) (mxs (i + n) 1#128) = mxs i (polyOf (coef b) n ^^^ cx (coef b n) (xi n))
      rw [ih (by omega), mxs_add, (mxs_add i).cx, ← unit_xi n (by omega), mxs_plus]
  exact key 128 (Nat.le_refl _)
def colSum (a b : List B8) : Nat → G
  | 0 => 0
  | i + 1 => colSum a b i ^^^ cx (coef a i) (mxs i (toG b))
theorem colSum_all (a b : List B8) : colSum a b 128 = gm (toG b) (toG a) := by
  have key : ∀ n, n ≤ 128 → colSum a b n = sumBits (fun i => mxs i (toG b)) (toG a) n := by
    intro n hn
    induction n with
    | zero => rfl
    | succ n ih =>
      show colSum a b n ^^^ cx (coef a n) _ = sumBits _ (toG a) n ^^^ cx ((toG a).getLsbD n) _
      rw [ih (by omega), toG_bit a n (by omega)]
  exact key 128 (Nat.le_refl _)
/-- The bytes of the first k bits. -/
def outB (f : Nat → Bool) (k : Nat) : List B8 := mk16 fun q => byteOf (fun j => decide (8 * q + (7 - j) < k) && f (8 * q + (7 - j))) 8
theorem outB_len (f : Nat → Bool) (k : Nat) : (outB f k).length = 16 := mk16_len _
theorem outB_all (f : Nat → Bool) : toG (outB f 128) = polyOf f 128 := by
  apply BitVec.eq_of_getLsbD_eq
  intro i hi
  rw [toG_bit _ i hi, polyOf_bit _ _ (Nat.le_refl _)]
  unfold coef outB
  rw [mk16_at _ _ (by omega), byteOf_bit _ _ (Nat.le_refl _), show 8 * (i / 8) + (7 - (7 - i % 8)) = i by omega]
  have e : decide (7 - i % 8 < 8) = true := by simp; omega
  rw [e, Bool.true_and]
theorem outB_zero (f : Nat → Bool) : outB f 0 = List.replicate 16 0 := by
  refine at8_ext (outB_len _ _) (by simp) (fun i hi => ?_)
  have e : at8 (List.replicate 16 (0 : B8)) i = 0 := by unfold at8 List.getD; rw [List.getElem?_replicate, if_pos hi]; rfl
  unfold outB
  rw [mk16_at _ i hi, e]
  apply BitVec.eq_of_getLsbD_eq
  intro j hj
  rw [byteOf_bit _ _ (Nat.le_refl _)]
  simp
theorem or_bit : ∀ sh, sh < 8 → ∀ n, n < 256 → ∀ c : Bool, bits .or .u8 (b8 (BitVec.ofNat 8 n) : Int) ((bo c : Int) * 2 ^ sh) = (b8 (BitVec.ofNat 8 n ||| cx c (BitVec.twoPow 8 sh)) : Int) := by decide +kernel
theorem or_bit8 (x : B8) (sh : Nat) (h : sh < 8) (c : Bool) : bits .or .u8 (b8 x : Int) ((bo c : Int) * 2 ^ sh) = (b8 (x ||| cx c (BitVec.twoPow 8 sh)) : Int) :=
  all8 (P := fun x => ∀ c : Bool, bits .or .u8 (b8 x : Int) ((bo c : Int) * 2 ^ sh) = (b8 (x ||| cx c (BitVec.twoPow 8 sh)) : Int)) (or_bit sh h) x c
theorem outB_set (f : Nat → Bool) (k : Nat) (_h : k < 128) : (outB f k).set (k / 8) (at8 (outB f k) (k / 8) ||| cx (f k) (BitVec.twoPow 8 (7 - k % 8))) = outB f (k + 1) := by
  refine at8_ext (by rw [List.length_set]; exact outB_len _ _) (outB_len _ _) (fun i hi => ?_)
  have hset : at8 ((outB f k).set (k / 8) (at8 (outB f k) (k / 8) ||| cx (f k) (BitVec.twoPow 8 (7 - k % 8)))) i = if i = k / 8 then at8 (outB f k) (k / 8) ||| cx (f k) (BitVec.twoPow 8 (7 - k % 8)) else at8 (outB f k) i := by
    by_cases e : i = k / 8
    · rw [if_pos e, e]
      simp [at8, List.getD, outB_len, show k / 8 < 16 by omega]
    · rw [if_neg e]
      unfold at8 List.getD
      rw [List.getElem?_set_ne (fun h => e h.symm)]
  rw [hset]
  by_cases e : i = k / 8
  · rw [if_pos e]
    apply BitVec.eq_of_getLsbD_eq
    intro j hj
    rw [BitVec.getLsbD_or]
    unfold outB
    rw [mk16_at _ _ (by omega), mk16_at _ i hi, byteOf_bit _ _ (Nat.le_refl _), byteOf_bit _ _ (Nat.le_refl _), e]
    have e2 : (cx (f k) (BitVec.twoPow 8 (7 - k % 8))).getLsbD j = (f k && decide (j = 7 - k % 8)) := by
      cases hb : f k
      · simp [cx]
      · simp only [cx, if_true, BitVec.getLsbD_twoPow]
        by_cases h : j = 7 - k % 8
        · rw [h]; simp; omega
        · simp [h, Ne.symm h]
    rw [e2]
    by_cases hjk : j = 7 - k % 8
    · have e3 : 8 * (k / 8) + (7 - j) = k := by omega
      rw [e3]
      have e4 : 7 - k % 8 < 8 := by omega
      simp [hjk, e4]
    · have e3 : (8 * (k / 8) + (7 - j) < k + 1) = (8 * (k / 8) + (7 - j) < k) := by
        apply propext
        constructor
        · intro h; omega
        · intro h; omega
      simp [hj, hjk, e3]
  · rw [if_neg e]
    unfold outB
    rw [mk16_at _ i hi, mk16_at _ i hi]
    congr 1
    funext j
    have e3 : decide (8 * i + (7 - j) < k) = decide (8 * i + (7 - j) < k + 1) := by
      rw [decide_eq_decide]
      constructor
      · intro h; omega
      · intro h; omega
    rw [e3]
end Go.Proofs.Ytpdkdeebdhdhgaa
