/- RealMath, RealFadeMath, RealLeaf, RealOrd, RealFade, RealFd, HtMath, Bytes, Blocks, MapMem, IntMaps, Draws, Lasts, Stages. -/
import Ieee.Arith
import Derived.Test.YtmlklmhochihbaaRows
import Derived.WalkKit
import Derived.WalkSpells
import Derived.WalkLawsBesides
import Derived.Laws.BitsAllLaws
import Derived.Laws.Externs
import Derived.ProofKit
import Derived.OpenShut
import Derived.ChangeOld
import Derived.Below
import Derived.Laws.FloatArith
import Derived.ChangeArms
import Derived.SizedLaws
import Derived.Deep.Slices
import Derived.OneCell
import Derived.OwnWalk
import Derived.Laws.CopyOwn
import Derived.Maps.Keyed
import Derived.MapViews
import Derived.Maps.Range
import Derived.Maps.RangeRun
import Derived.Orders
import Derived.RegionTactic
import Derived.Deep.QuietTactic
/- The numbers of binary64 by their bits: ranks, magnitudes, signs, and that the model's order of two such words is that of their signed magnitudes. -/
namespace Go.Proofs.Ytmlklmhochihbaa

/-- The magnitude: the lowest 63 bits. -/
def mg (b : Nat) : Nat := b % 9223372036854775808
/-- Is the word no number? -/
def nn (b : Nat) : Bool := decide (9218868437227405312 < mg b)
/-- Is the sign bit set? -/
def ng (b : Nat) : Bool := decide (9223372036854775808 ≤ b)
/-- The signed magnitude. -/
def sm (b : Nat) : Int := if ng b then -(mg b : Int) else (mg b : Int)
/-- The rank. -/
def rk (b : Nat) : Int := if nn b then 9223372036854775807 else if ng b then -(mg b : Int) - 1 else (mg b : Int)

/-- The value of a rung, in units of the least number. -/
def vl (r : Nat) : Nat := if r < 4503599627370496 then r else (4503599627370496 + r % 4503599627370496) * 2 ^ (r / 4503599627370496 - 1)

theorem vl_step (r : Nat) : vl r < vl (r + 1) := by
  unfold vl
  by_cases h1 : r + 1 < 4503599627370496
  · rw [if_pos (by omega), if_pos h1]; omega
  · rw [if_neg h1]
    by_cases h2 : r < 4503599627370496
    · have e : r + 1 = 4503599627370496 := by omega
      rw [if_pos h2, e]
      simp; omega
    · rw [if_neg h2]
      have hp : 0 < 2 ^ (r / 4503599627370496 - 1) := Nat.two_pow_pos _
      by_cases h3 : r % 4503599627370496 + 1 < 4503599627370496
      · have e1 : (r + 1) % 4503599627370496 = r % 4503599627370496 + 1 := by omega
        have e2 : (r + 1) / 4503599627370496 = r / 4503599627370496 := by omega
        rw [e1, e2]
        exact Nat.mul_lt_mul_of_pos_right (by omega) hp
      · have e1 : (r + 1) % 4503599627370496 = 0 := by omega
        have e2 : (r + 1) / 4503599627370496 - 1 = (r / 4503599627370496 - 1) + 1 := by omega
        rw [e1, e2, Nat.pow_succ]
        generalize 2 ^ (r / 4503599627370496 - 1) = p at hp ⊢
        have hm : r % 4503599627370496 < 4503599627370496 := Nat.mod_lt _ (by omega)
        have : (4503599627370496 + r % 4503599627370496) * p < (4503599627370496 + 4503599627370496) * p := Nat.mul_lt_mul_of_pos_right (by omega) hp
        omega

theorem vl_mono {a b : Nat} (h : a < b) : vl a < vl b := by
  induction b with
  | zero => omega
  | succ n ih =>
    by_cases e : a = n
    · subst e; exact vl_step a
    · exact Nat.lt_trans (ih (by omega)) (vl_step n)

theorem vl_lt_iff (a b : Nat) : vl a < vl b ↔ a < b := by
  constructor
  · intro h
    by_cases h2 : a < b
    · exact h2
    · by_cases e : a = b
      · subst e; omega
      · have := vl_mono (show b < a by omega); omega
  · exact vl_mono

theorem vl_eq_iff (a b : Nat) : vl a = vl b ↔ a = b := by
  constructor
  · intro h
    have h1 := vl_lt_iff a b
    have h2 := vl_lt_iff b a
    omega
  · intro h; rw [h]

theorem vl_zero : vl 0 = 0 := rfl

theorem cmp_congr {a b c d : Int} (h1 : a < b ↔ c < d) (h2 : a = b ↔ c = d) : compare a b = compare c d := by
  simp only [compare, compareOfLessAndEq]
  by_cases x : a < b
  · rw [if_pos x, if_pos (h1.1 x)]
  · rw [if_neg x, if_neg (fun y => x (h1.2 y))]
    by_cases z : a = b
    · rw [if_pos z, if_pos (h2.1 z)]
    · rw [if_neg z, if_neg (fun y => z (h2.2 y))]

theorem signed_shift (s : Bool) (m e c : Nat) (h : c ≤ e) : Ieee.signed s m (e - c) * (2 ^ c : Nat) = Ieee.signed s (m * 2 ^ e) 0 := by
  have k : m <<< (e - c) * 2 ^ c = m * 2 ^ e := by
    rw [Nat.shiftLeft_eq, Nat.mul_assoc, ← Nat.pow_add]
    congr 2; omega
  unfold Ieee.signed
  cases s
  · simp only [Bool.false_eq_true, if_false, Nat.shiftLeft_zero]
    rw [← k]; push_cast; rfl
  · simp only [if_true, Nat.shiftLeft_zero]
    rw [← k, Int.neg_mul]; push_cast; rfl

theorem cmp_scale (s t : Bool) (m n i j : Nat) :
    compare (Ieee.signed s m (i - min i j)) (Ieee.signed t n (j - min i j)) = compare (Ieee.signed s (m * 2 ^ i) 0) (Ieee.signed t (n * 2 ^ j) 0) := by
  rw [← signed_shift s m i (min i j) (Nat.min_le_left ..), ← signed_shift t n j (min i j) (Nat.min_le_right ..)]
  have hp : (0 : Int) < ((2 ^ (min i j) : Nat) : Int) := by have := Nat.two_pow_pos (min i j); omega
  generalize ((2 ^ (min i j) : Nat) : Int) = P at hp ⊢
  generalize Ieee.signed s m (i - min i j) = A
  generalize Ieee.signed t n (j - min i j) = B
  refine cmp_congr ⟨fun h => Int.mul_lt_mul_of_pos_right h hp, fun h => Int.lt_of_mul_lt_mul_right h (Int.le_of_lt hp)⟩ ⟨fun h => by rw [h], fun h => Int.eq_of_mul_eq_mul_right (by omega) h⟩

/-- What a word below infinity stands for. -/
theorem read_num (b : Nat) (hb : b < 18446744073709551616) (h : mg b < 9218868437227405312) :
    ∃ m e : Nat, Ieee.double.read b = .number (ng b) m (-1074 + (e : Int)) ∧ m * 2 ^ e = vl (mg b) := by
  have hs : Ieee.double.signWeight = 9223372036854775808 := by decide
  have hB : Ieee.double.binade = 4503599627370496 := by decide
  have hI : Ieee.double.infRung = 9218868437227405312 := by decide
  have hL : Ieee.double.leastPlace = -1074 := by decide
  have hn : (b / 9223372036854775808 % 2 == 1) = ng b := by
    unfold ng; rw [Bool.eq_iff_iff]; simp; omega
  unfold mg at h
  unfold Ieee.Format.read
  simp only [hs, hB, hI, hL, hn]
  unfold vl mg
  by_cases h1 : b % 9223372036854775808 < 4503599627370496
  · refine ⟨b % 9223372036854775808, 0, ?_, ?_⟩
    · rw [if_pos h1]; rfl
    · rw [if_pos h1]; simp
  · refine ⟨4503599627370496 + b % 9223372036854775808 % 4503599627370496, b % 9223372036854775808 / 4503599627370496 - 1, ?_, ?_⟩
    · rw [if_neg h1, if_pos h]
    · rw [if_neg h1]

theorem read_inf (b : Nat) (hb : b < 18446744073709551616) (h : mg b = 9218868437227405312) : Ieee.double.read b = .infinity (ng b) := by
  have hs : Ieee.double.signWeight = 9223372036854775808 := by decide
  have hB : Ieee.double.binade = 4503599627370496 := by decide
  have hI : Ieee.double.infRung = 9218868437227405312 := by decide
  have hn : (b / 9223372036854775808 % 2 == 1) = ng b := by
    unfold ng; rw [Bool.eq_iff_iff]; simp; omega
  unfold mg at h
  unfold Ieee.Format.read
  simp only [hs, hB, hI, hn]
  rw [if_neg (by omega), if_neg (by omega), if_pos h]

theorem read_nan (b : Nat) (h : 9218868437227405312 < mg b) : ∃ s f, Ieee.double.read b = .nan s f := by
  have hs : Ieee.double.signWeight = 9223372036854775808 := by decide
  have hB : Ieee.double.binade = 4503599627370496 := by decide
  have hI : Ieee.double.infRung = 9218868437227405312 := by decide
  unfold mg at h
  unfold Ieee.Format.read
  simp only [hs, hB, hI]
  rw [if_neg (by omega), if_neg (by omega), if_neg (by omega)]
  exact ⟨_, _, rfl⟩

theorem mg_lt (b : Nat) : mg b < 9223372036854775808 := Nat.mod_lt _ (by omega)

theorem nn_false (b : Nat) : nn b = false ↔ mg b ≤ 9218868437227405312 := by unfold nn; simp
theorem nn_true (b : Nat) : nn b = true ↔ 9218868437227405312 < mg b := by unfold nn; simp

theorem order_nan_left (a b : Nat) (h : nn a = true) : Ieee.double.order a b = none := by
  obtain ⟨s, f, e⟩ := read_nan a ((nn_true a).1 h)
  unfold Ieee.Format.order; rw [e]; rfl

theorem order_nan_right (a b : Nat) (h : nn b = true) : Ieee.double.order a b = none := by
  obtain ⟨s, f, e⟩ := read_nan b ((nn_true b).1 h)
  unfold Ieee.Format.order; rw [e]
  cases Ieee.double.read a <;> rfl

theorem signed0 (s : Bool) (v : Nat) : Ieee.signed s v 0 = if s then -(v : Int) else (v : Int) := by
  unfold Ieee.signed; simp

theorem order_num (a b : Nat) (ha : a < 18446744073709551616) (hb : b < 18446744073709551616) (na : nn a = false) (nb : nn b = false) :
    Ieee.double.order a b = some (compare (sm a) (sm b)) := by
  rw [nn_false] at na nb
  unfold Ieee.Format.order
  by_cases ia : mg a = 9218868437227405312
  · rw [read_inf a ha ia]
    by_cases ib : mg b = 9218868437227405312
    · rw [read_inf b hb ib]
      unfold sm; rw [ia, ib]
      cases ng a <;> cases ng b <;> decide
    · obtain ⟨m, e, hr, _⟩ := read_num b hb (by omega)
      rw [hr]
      unfold sm; rw [ia]
      have : compare (if ng a = true then -((9218868437227405312 : Nat) : Int) else ((9218868437227405312 : Nat) : Int)) (if ng b = true then -(mg b : Int) else (mg b : Int)) = compare (if ng a = true then (-1 : Int) else 1) 0 := by
        apply cmp_congr <;> (cases ng a <;> cases ng b <;> simp <;> omega)
      simp only [Ieee.Datum.order]
      rw [this]; cases ng a <;> decide
  · obtain ⟨m, e, hr, hv⟩ := read_num a ha (by omega)
    rw [hr]
    by_cases ib : mg b = 9218868437227405312
    · rw [read_inf b hb ib]
      unfold sm; rw [ib]
      have : compare (if ng a = true then -(mg a : Int) else (mg a : Int)) (if ng b = true then -((9218868437227405312 : Nat) : Int) else ((9218868437227405312 : Nat) : Int)) = compare 0 (if ng b = true then (-1 : Int) else 1) := by
        apply cmp_congr <;> (cases ng a <;> cases ng b <;> simp <;> omega)
      simp only [Ieee.Datum.order]
      rw [this]; cases ng b <;> decide
    · obtain ⟨n, f, hr2, hv2⟩ := read_num b hb (by omega)
      rw [hr2]
      simp only [Ieee.Datum.order]
      have e1 : ((-1074 : Int) + e - min (-1074 + (e : Int)) (-1074 + (f : Int))).toNat = e - min e f := by omega
      have e2 : ((-1074 : Int) + f - min (-1074 + (e : Int)) (-1074 + (f : Int))).toNat = f - min e f := by omega
      rw [e1, e2, cmp_scale, hv, hv2, signed0, signed0]
      unfold sm
      have l1 := vl_lt_iff (mg a) (mg b)
      have l2 := vl_lt_iff (mg b) (mg a)
      have l3 := vl_lt_iff 0 (mg a)
      have l4 := vl_lt_iff 0 (mg b)
      rw [vl_zero] at l3 l4
      congr 1
      apply cmp_congr <;> (cases ng a <;> cases ng b <;> simp <;> omega)

/-- '==' of two words, as the model reckons it. -/
theorem ord_eq (a b : Nat) (ha : a < 18446744073709551616) (hb : b < 18446744073709551616) :
    (Ieee.double.order a b == some .eq) = (!nn a && !nn b && decide (sm a = sm b)) := by
  cases na : nn a
  · cases nb : nn b
    · rw [order_num a b ha hb na nb]
      simp only [compare, compareOfLessAndEq]
      by_cases x : sm a < sm b
      · rw [if_pos x]; simp; omega
      · rw [if_neg x]
        by_cases z : sm a = sm b
        · rw [if_pos z]; simp [z]
        · rw [if_neg z]; simp [z]
    · rw [order_nan_right a b nb]; simp
  · rw [order_nan_left a b na]; simp

/-- '<' of two words, as the model reckons it. -/
theorem ord_lt (a b : Nat) (ha : a < 18446744073709551616) (hb : b < 18446744073709551616) :
    (Ieee.double.order a b == some .lt) = (!nn a && !nn b && decide (sm a < sm b)) := by
  cases na : nn a
  · cases nb : nn b
    · rw [order_num a b ha hb na nb]
      simp only [compare, compareOfLessAndEq]
      by_cases x : sm a < sm b
      · rw [if_pos x]; simp [x]
      · rw [if_neg x]
        by_cases z : sm a = sm b
        · rw [if_pos z]; simp [z]
        · rw [if_neg z]; simp [x]
    · rw [order_nan_right a b nb]; simp
  · rw [order_nan_left a b na]; simp

/-- '>' of two words, as the model reckons it. -/
theorem ord_gt (a b : Nat) (ha : a < 18446744073709551616) (hb : b < 18446744073709551616) :
    (Ieee.double.order a b == some .gt) = (!nn a && !nn b && decide (sm b < sm a)) := by
  cases na : nn a
  · cases nb : nn b
    · rw [order_num a b ha hb na nb]
      simp only [compare, compareOfLessAndEq]
      by_cases x : sm a < sm b
      · rw [if_pos x]; simp; omega
      · rw [if_neg x]
        by_cases z : sm a = sm b
        · rw [if_pos z]; simp [z]
        · rw [if_neg z]; simp; omega
    · rw [order_nan_right a b nb]; simp
  · rw [order_nan_left a b na]; simp

end Go.Proofs.Ytmlklmhochihbaa
/- Halving by the bits: what it makes of a magnitude, that two goes are one, and that 2200 goes bring every number to nought. -/
namespace Go.Proofs.Ytmlklmhochihbaa

/-- The half of a magnitude. -/
def hf (m : Nat) : Nat := if 9007199254740992 ≤ m then m - 4503599627370496 else if m % 2 = 1 then m / 2 + m / 2 % 2 else m / 2
/-- Halved so many times. -/
def hfi : Nat → Nat → Nat
  | 0, m => m
  | k + 1, m => hfi k (hf m)

theorem hf_le (m : Nat) : hf m ≤ m := by
  unfold hf; split
  · omega
  · split <;> omega
theorem hf_zero : hf 0 = 0 := rfl
theorem hfi_zero (k : Nat) : hfi k 0 = 0 := by
  induction k with
  | zero => rfl
  | succ n ih => show hfi n (hf 0) = 0; rw [hf_zero]; exact ih
theorem hfi_le (k m : Nat) : hfi k m ≤ m := by
  induction k generalizing m with
  | zero => exact Nat.le_refl _
  | succ n ih => exact Nat.le_trans (ih (hf m)) (hf_le m)
theorem hfi_add (a b m : Nat) : hfi (a + b) m = hfi b (hfi a m) := by
  induction a generalizing m with
  | zero => rw [Nat.zero_add]; rfl
  | succ n ih =>
    have e : n + 1 + b = (n + b) + 1 := by omega
    rw [e]; exact ih (hf m)
theorem hfi_succ (k m : Nat) : hfi (k + 1) m = hf (hfi k m) := hfi_add k 1 m

theorem hfi_low (j m : Nat) (h : m < (j + 2) * 4503599627370496) : hfi j m < 9007199254740992 := by
  induction j generalizing m with
  | zero => show m < _; omega
  | succ n ih =>
    show hfi n (hf m) < _
    apply ih
    unfold hf; split
    · omega
    · have : m < 9007199254740992 := by omega
      split <;> omega

theorem hfi_end (j m : Nat) (h : m ≤ 2 ^ j) (hs : m ≤ 9007199254740992) (hne : m < 9007199254740992) : hfi (j + 1) m = 0 := by
  induction j generalizing m with
  | zero =>
    have : m = 0 ∨ m = 1 := by simp at h; omega
    rcases this with rfl | rfl <;> rfl
  | succ n ih =>
    show hfi (n + 1) (hf m) = 0
    have hp : 2 ^ (n + 1) = 2 * 2 ^ n := by rw [Nat.pow_succ, Nat.mul_comm]
    rw [hp] at h
    generalize 2 ^ n = P at h ih
    have h1 : hf m ≤ P := by
      unfold hf; rw [if_neg (by omega)]
      split <;> omega
    have h2 := hf_le m
    exact ih (hf m) h1 (by omega) (by omega)

theorem hfi_2200 (m : Nat) (h : m < 9218868437227405312) : hfi 2200 m = 0 := by
  have h1 := hfi_low 2045 m (by omega)
  have h2 := hfi_end 53 (hfi 2045 m) (by simp; omega) (by omega) h1
  have e : (2200 : Nat) = 2045 + (54 + 101) := by decide
  rw [e, hfi_add, hfi_add 54 101, h2]
  exact hfi_zero 101

theorem hfi_far (n m : Nat) (h : m < 9218868437227405312) (hn : 2200 ≤ n) : hfi n m = 0 := by
  have e : n = 2200 + (n - 2200) := by omega
  rw [e, hfi_add, hfi_2200 m h, hfi_zero]

theorem hfi_stop (k n m : Nat) (h : hfi k m = 0) (hn : k ≤ n) : hfi n m = 0 := by
  have e : n = k + (n - k) := by omega
  rw [e, hfi_add, h, hfi_zero]

/-- The sign bit alone. -/
def sg (b : Nat) : Nat := if ng b then 9223372036854775808 else 0

/-- The number with those bits, halved k times. -/
def fd (b k : Nat) : Nat := if 9218868437227405312 ≤ mg b then b else sg b + hfi k (mg b)

theorem mg_sg (b t : Nat) (h : t < 9223372036854775808) : mg (sg b + t) = t := by
  unfold mg sg; split <;> omega
theorem sg_sg (b t : Nat) (h : t < 9223372036854775808) : sg (sg b + t) = sg b := by
  have : ng (sg b + t) = ng b := by
    unfold sg; cases hb : ng b
    · unfold ng; simp; omega
    · unfold ng; simp
  show (if ng (sg b + t) then 9223372036854775808 else 0) = sg b
  rw [this]; rfl
theorem sg_mg (b : Nat) (h : b < 18446744073709551616) : sg b + mg b = b := by
  unfold sg mg ng; split
  · rename_i h2; simp at h2; omega
  · rename_i h2; simp at h2; omega

theorem fd_zero (b : Nat) (h : b < 18446744073709551616) : fd b 0 = b := by
  unfold fd; split
  · rfl
  · exact sg_mg b h

theorem fd_big (b k : Nat) (h : 9218868437227405312 ≤ mg b) : fd b k = b := by unfold fd; rw [if_pos h]
theorem fd_num (b k : Nat) (h : mg b < 9218868437227405312) : fd b k = sg b + hfi k (mg b) := by unfold fd; rw [if_neg (by omega)]

theorem mg_fd (b k : Nat) (h : mg b < 9218868437227405312) : mg (fd b k) = hfi k (mg b) := by
  rw [fd_num b k h]; have := hfi_le k (mg b); exact mg_sg b _ (by omega)
theorem sg_fd (b k : Nat) (h : mg b < 9218868437227405312) : sg (fd b k) = sg b := by
  rw [fd_num b k h]; have := hfi_le k (mg b); exact sg_sg b _ (by omega)

theorem fd_fd (b j k : Nat) : fd (fd b j) k = fd b (j + k) := by
  by_cases h : 9218868437227405312 ≤ mg b
  · rw [fd_big b j h, fd_big b k h, fd_big b (j + k) h]
  · have hl : mg b < 9218868437227405312 := by omega
    have hm := hfi_le j (mg b)
    rw [fd_num (fd b j) k (by rw [mg_fd b j hl]; omega), sg_fd b j hl, mg_fd b j hl, ← hfi_add, fd_num b (j + k) hl]

theorem fd_lt (b k : Nat) (h : b < 18446744073709551616) : fd b k < 18446744073709551616 := by
  have hm := mg_lt b
  have hh := hfi_le k (mg b)
  unfold fd; split
  · exact h
  · unfold sg; split <;> omega

theorem fd_far (b n : Nat) (hn : 2200 ≤ n) : fd b n = fd b 2200 := by
  unfold fd; split
  · rfl
  · rw [hfi_far n (mg b) (by omega) hn, hfi_2200 (mg b) (by omega)]

theorem fd_three : fd 4613937818241073152 1 = 4609434218613702656 := by decide

end Go.Proofs.Ytmlklmhochihbaa
/- What the small functions answer, by the bits of their arguments: magnitude, sign, rank, order, and the number of a rank. -/
namespace Go.Proofs.Ytmlklmhochihbaa
open Go.RowKit

theorem bits_run (b : Nat) (w : World) : (callFunc 94 #[.float .f64 b]).run Try.prog w = .ok (.value (.int .u64 b)) w := by
  rw [run_callFunc_extern (e := Extern.MathFloatBits.float64bits) Try.func94 (by kernel_rfl) (by kernel_rfl) (by kernel_rfl) (by kernel_rfl)]
  rfl

theorem from_run (n : Int) (w : World) : (callFunc 90 #[.int .u64 n]).run Try.prog w = .ok (.value (.float .f64 n.toNat)) w := by
  rw [run_callFunc_extern (e := Extern.MathFloatBits.float64frombits) Try.func90 (by kernel_rfl) (by kernel_rfl) (by kernel_rfl) (by kernel_rfl)]
  rfl

theorem andNot_sign (b : Nat) (hb : b < 18446744073709551616) : bits .andNot .u64 (b : Int) 9223372036854775808 = (mg b : Int) := by
  have h := u64_andNot_nat b 9223372036854775808 hb (by omega)
  have e : b &&& (18446744073709551615 - 9223372036854775808) = mg b := by
    have := Nat.and_two_pow_sub_one_eq_mod b 63
    unfold mg
    simpa using this
  rw [e] at h
  exact h

theorem and_sign (b : Nat) (hb : b < 18446744073709551616) : bits .and .u64 (b : Int) 9223372036854775808 = (sg b : Int) := by
  have h := u64_and_nat b 9223372036854775808 hb (by omega)
  have e : b &&& 9223372036854775808 = sg b := by
    have hk : (9223372036854775808 : Nat) = 2 ^ 63 := by decide
    apply Nat.eq_of_testBit_eq
    intro i
    rw [Nat.testBit_and]
    by_cases hi : i = 63
    · subst hi
      unfold sg ng
      by_cases hs : 9223372036854775808 ≤ b
      · have ht : b.testBit 63 = true := by rw [Nat.testBit_eq_decide_div_mod_eq]; simp; omega
        rw [if_pos (by simpa using hs), ht]; simp
      · have ht : b.testBit 63 = false := by rw [Nat.testBit_eq_decide_div_mod_eq]; simp; omega
        rw [if_neg (by simpa using hs), ht]; simp
    · have h0 : Nat.testBit 9223372036854775808 i = false := by rw [hk]; exact Nat.testBit_two_pow_of_ne (fun h => hi h.symm)
      rw [h0]
      unfold sg
      cases ng b
      · simp
      · simp [h0]
  rw [e] at h
  exact h

theorem magnitude_any (b : Nat) (w : World) (hb : b < 18446744073709551616) :
    Calls Try.prog 88 #[.float .f64 b] w fun e w' => e = .returned (.int .u64 (mg b : Int)) ∧ w' = w := by
  have h1 := bits_run b
  have h2 := andNot_sign b hb
  go_enter Try.func88, Try.ntmps88
  go_wp2
  go_ret
  exact ⟨rfl, rfl⟩

theorem sign_any (b : Nat) (w : World) (hb : b < 18446744073709551616) :
    Calls Try.prog 91 #[.float .f64 b] w fun e w' => e = .returned (.int .u64 (sg b : Int)) ∧ w' = w := by
  have h1 := bits_run b
  have h2 := and_sign b hb
  go_enter Try.func91, Try.ntmps91
  go_wp2
  go_ret
  exact ⟨rfl, rfl⟩

theorem nn_int (b : Nat) : decide ((9218868437227405312 : Int) < (mg b : Int)) = nn b := by
  unfold nn; rw [decide_eq_decide]; omega

theorem isNone_any (b : Nat) (w : World) (hb : b < 18446744073709551616) :
    Calls Try.prog 92 #[.float .f64 b] w fun e w' => e = .returned (.bool (nn b)) ∧ w' = w := by
  go_enter Try.func92, Try.ntmps92
  go_wp2_with (go_at_call 88; refine (magnitude_any b _ hb).mono ?_; rintro e w' ⟨rfl, rfl⟩)
  go_ret
  exact ⟨by rw [nn_int]; rfl, rfl⟩

theorem rank_any (b : Nat) (w : World) (hb : b < 18446744073709551616) :
    Calls Try.prog 73 #[.float .f64 b] w fun e w' => e = .returned (.int .i64 (rk b)) ∧ w' = w := by
  have hm := mg_lt b
  have hm2 : (mg b : Int) < 9223372036854775808 := by omega
  by_cases hn : nn b = true
  · have hr : rk b = 9223372036854775807 := by unfold rk; rw [if_pos hn]
    rw [hr]
    go_enter Try.func73, Try.ntmps73
    go_wp2_with (first
      | (go_at_call 88; refine (magnitude_any b _ hb).mono ?_; rintro e w' ⟨rfl, rfl⟩)
      | (go_at_call 92; refine (isNone_any b _ hb).mono ?_; rintro e w' ⟨rfl, rfl⟩)
      | (go_at_call 91; refine (sign_any b _ hb).mono ?_; rintro e w' ⟨rfl, rfl⟩))
    go_ret
    exact ⟨rfl, rfl⟩
  · have hn : nn b = false := by simpa using hn
    by_cases hg : ng b = true
    · have hr : rk b = -(mg b : Int) - 1 := by unfold rk; rw [if_neg (by simp [hn]), if_pos hg]
      have hs : ((sg b : Int) != 0) = true := by unfold sg; rw [if_pos hg]; decide
      rw [hr]
      go_enter Try.func73, Try.ntmps73
      go_wp2_with (first
        | (go_at_call 88; refine (magnitude_any b _ hb).mono ?_; rintro e w' ⟨rfl, rfl⟩)
        | (go_at_call 92; refine (isNone_any b _ hb).mono ?_; rintro e w' ⟨rfl, rfl⟩)
        | (go_at_call 91; refine (sign_any b _ hb).mono ?_; rintro e w' ⟨rfl, rfl⟩))
      go_ret
      exact ⟨by go_num, rfl⟩
    · have hg : ng b = false := by simpa using hg
      have hr : rk b = (mg b : Int) := by unfold rk; rw [if_neg (by simp [hn]), if_neg (by simp [hg])]
      have hs : ((sg b : Int) != 0) = false := by unfold sg; rw [if_neg (by simp [hg])]; decide
      rw [hr]
      go_enter Try.func73, Try.ntmps73
      go_wp2_with (first
        | (go_at_call 88; refine (magnitude_any b _ hb).mono ?_; rintro e w' ⟨rfl, rfl⟩)
        | (go_at_call 92; refine (isNone_any b _ hb).mono ?_; rintro e w' ⟨rfl, rfl⟩)
        | (go_at_call 91; refine (sign_any b _ hb).mono ?_; rintro e w' ⟨rfl, rfl⟩))
      go_ret
      exact ⟨rfl, rfl⟩

end Go.Proofs.Ytmlklmhochihbaa
/- What the functions of order answer: they are told by the ranks of their arguments. -/
namespace Go.Proofs.Ytmlklmhochihbaa
open Go.RowKit

theorem wf64 {b : Nat} (h : (Lit.float .f64 b).wf = true) : b < 18446744073709551616 := by simpa [Lit.wf] using h
theorem wfi64 {n : Int} (h : (Lit.int .i64 n).wf = true) : -9223372036854775808 ≤ n ∧ n ≤ 9223372036854775807 := by
  have e1 : IntKind.i64.min = -9223372036854775808 := by decide
  have e2 : IntKind.i64.max = 9223372036854775807 := by decide
  simpa [Lit.wf, e1, e2] using h

theorem and_low (b : Nat) (hb : b < 18446744073709551616) : bits .and .u64 (b : Int) 9223372036854775807 = (mg b : Int) := by
  have h := u64_and_nat b 9223372036854775807 hb (by omega)
  have e : b &&& 9223372036854775807 = mg b := by
    have := Nat.and_two_pow_sub_one_eq_mod b 63
    unfold mg
    simpa using this
  rw [e] at h
  exact h

theorem ne_self (b : Nat) (hb : b < 18446744073709551616) : (FloatKind.f64.format.order b b != some Ordering.eq) = nn b := by
  have h := ord_eq b b hb hb
  show (!(Ieee.double.order b b == some Ordering.eq)) = nn b
  rw [h]; cases nn b <;> simp

theorem shr63 (b : Nat) (hb : b < 18446744073709551616) (t : TypeId) (k : IntKind) : binOp .shr t (.int .u64 (b : Int)) (.int k 63) = pure (.int .u64 (if ng b then 1 else 0)) := by
  have h : ((b : Int) / 9223372036854775808) = if ng b then 1 else 0 := by
    unfold ng
    by_cases hs : 9223372036854775808 ≤ b
    · rw [if_pos (by simpa using hs)]; omega
    · rw [if_neg (by simpa using hs)]; omega
  rw [binOp_shr, shift_shr .u64 k (b : Int) 63 (by decide) (by decide)]
  rw [← h]; rfl

theorem refRank_any (b : Nat) (w : World) (hb : b < 18446744073709551616) :
    Calls Try.prog 76 #[.float .f64 b] w fun e w' => e = .returned (.int .i64 (rk b)) ∧ w' = w := by
  have hm := mg_lt b
  have hm2 : (mg b : Int) < 9223372036854775808 := by omega
  have h1 := bits_run b
  have h2 := and_low b hb
  by_cases hn : nn b = true
  · have hr : rk b = 9223372036854775807 := by unfold rk; rw [if_pos hn]
    have hne : (FloatKind.f64.format.order b b != some Ordering.eq) = true := by rw [ne_self b hb, hn]
    rw [hr]
    go_enter Try.func76, Try.ntmps76
    go_wp2
    go_ret
    exact ⟨rfl, rfl⟩
  · have hn : nn b = false := by simpa using hn
    have hne : (FloatKind.f64.format.order b b != some Ordering.eq) = false := by rw [ne_self b hb, hn]
    by_cases hg : ng b = true
    · have hr : rk b = -(mg b : Int) - 1 := by unfold rk; rw [if_neg (by simp [hn]), if_pos hg]
      have h3 := shr63 b hb
      rw [if_pos hg] at h3
      clear hb
      rw [hr]
      go_enter Try.func76, Try.ntmps76
      go_wp2
      go_ret
      exact ⟨by go_num, rfl⟩
    · have hg : ng b = false := by simpa using hg
      have hr : rk b = (mg b : Int) := by unfold rk; rw [if_neg (by simp [hn]), if_neg (by simp [hg])]
      have h3 := shr63 b hb
      rw [if_neg (by simp [hg])] at h3
      clear hb
      rw [hr]
      go_enter Try.func76, Try.ntmps76
      go_wp2
      go_ret
      exact ⟨rfl, rfl⟩

/-- Is a ahead of b? -/
def ls (a b : Nat) : Bool := decide (rk a < rk b)
/-- Are a and b one? -/
def sa (a b : Nat) : Bool := rk a == rk b

theorem fsame_any (a b : Nat) (w : World) (ha : a < 18446744073709551616) (hb : b < 18446744073709551616) :
    Calls Try.prog 67 #[.float .f64 a, .float .f64 b] w fun e w' => e = .returned (.bool (sa a b)) ∧ w' = w := by
  go_enter Try.func67, Try.ntmps67
  go_wp2_with fail
  refine (refRank_any a _ ha).mono ?_
  rintro e w' ⟨rfl, rfl⟩
  go_wp2_with fail
  refine (refRank_any b _ hb).mono ?_
  rintro e w' ⟨rfl, rfl⟩
  go_wp2
  go_ret
  exact ⟨rfl, rfl⟩

theorem signbit_any (b : Nat) (w : World) (hb : b < 18446744073709551616) :
    Calls Try.prog 75 #[.float .f64 b] w fun e w' => e = .returned (.bool (ng b)) ∧ w' = w := by
  have h1 := bits_run b
  have h3 : decide (wrap64 (b : Int) < 0) = ng b := by unfold ng wrap64; rw [decide_eq_decide]; omega
  go_enter Try.func75, Try.ntmps75
  go_wp2
  go_ret
  exact ⟨rfl, rfl⟩

theorem rk_less (a b : Nat) (na : nn a = false) (nb : nn b = false) : (rk a < rk b) ↔ (sm a < sm b ∨ sm a = 0 ∧ sm b = 0 ∧ ng a = true ∧ ng b = false) := by
  unfold rk sm
  rw [na, nb]
  cases ng a <;> cases ng b <;> simp <;> omega

theorem sm_zero : sm 0 = 0 := rfl
theorem nn_zero : nn 0 = false := rfl

theorem rk_le (a : Nat) : rk a ≤ 9223372036854775807 := by
  have := mg_lt a
  unfold rk; split
  · omega
  · split <;> omega
theorem rk_lt (a : Nat) (h : nn a = false) : rk a ≤ 9218868437227405312 := by
  rw [nn_false] at h
  unfold rk nn; rw [if_neg (by simp; omega)]; split <;> omega
theorem rk_nan (a : Nat) (h : nn a = true) : rk a = 9223372036854775807 := by unfold rk; rw [if_pos h]

theorem refLess_any (a b : Nat) (w : World) (ha : a < 18446744073709551616) (hb : b < 18446744073709551616) :
    Calls Try.prog 66 #[.float .f64 a, .float .f64 b] w fun e w' => e = .returned (.bool (ls a b)) ∧ w' = w := by
  have ka := ne_self a ha
  have kb := ne_self b hb
  cases na : nn a
  · cases nb : nn b
    · have z1 : (FloatKind.f64.format.order a 0 == some Ordering.eq) = decide (sm a = 0) := by
        have := ord_eq a 0 ha (by omega); rw [na, nn_zero, sm_zero] at this; show (Ieee.double.order a 0 == some Ordering.eq) = _; simpa using this
      have z2 : (FloatKind.f64.format.order b 0 == some Ordering.eq) = decide (sm b = 0) := by
        have := ord_eq b 0 hb (by omega); rw [nb, nn_zero, sm_zero] at this; show (Ieee.double.order b 0 == some Ordering.eq) = _; simpa using this
      have z3 : (FloatKind.f64.format.order a b == some Ordering.lt) = decide (sm a < sm b) := by
        have := ord_lt a b ha hb; rw [na, nb] at this; show (Ieee.double.order a b == some Ordering.lt) = _; simpa using this
      have hr := rk_less a b na nb
      rw [na] at ka
      rw [nb] at kb
      by_cases ca : sm a = 0
      · have da : decide (sm a = 0) = true := by simpa using ca
        rw [da] at z1
        by_cases cb : sm b = 0
        · have db : decide (sm b = 0) = true := by simpa using cb
          rw [db] at z2
          have hl : ls a b = (ng a && !ng b) := by unfold ls; rw [Bool.eq_iff_iff, decide_eq_true_eq, hr, ca, cb]; cases ng a <;> cases ng b <;> simp
          rw [hl]
          clear hr da db
          cases ga : ng a
          · go_enter Try.func66, Try.ntmps66
            go_wp2_with (go_at_call 75; refine (signbit_any _ _ (by assumption)).mono ?_; rintro e w' ⟨rfl, rfl⟩)
            go_ret
            exact ⟨rfl, rfl⟩
          · go_enter Try.func66, Try.ntmps66
            go_wp2_with (go_at_call 75; refine (signbit_any _ _ (by assumption)).mono ?_; rintro e w' ⟨rfl, rfl⟩)
            go_ret
            exact ⟨rfl, rfl⟩
        · have db : decide (sm b = 0) = false := by simpa using cb
          rw [db] at z2
          have hl : ls a b = decide (sm a < sm b) := by unfold ls; rw [decide_eq_decide, hr]; omega
          rw [hl]
          clear hr da db ca cb
          go_enter Try.func66, Try.ntmps66
          go_wp2
          go_ret
          exact ⟨rfl, rfl⟩
      · have da : decide (sm a = 0) = false := by simpa using ca
        rw [da] at z1
        have hl : ls a b = decide (sm a < sm b) := by unfold ls; rw [decide_eq_decide, hr]; omega
        rw [hl]
        clear hr da ca
        go_enter Try.func66, Try.ntmps66
        go_wp2
        go_ret
        exact ⟨rfl, rfl⟩
    · have hl : ls a b = true := by have := rk_lt a na; have := rk_nan b nb; unfold ls; simp; omega
      rw [hl]
      rw [na] at ka
      rw [nb] at kb
      go_enter Try.func66, Try.ntmps66
      go_wp2
      go_ret
      exact ⟨rfl, rfl⟩
  · have hl : ls a b = false := by have := rk_nan a na; have := rk_le b; unfold ls; simp; omega
    rw [hl]
    rw [na] at ka
    go_enter Try.func66, Try.ntmps66
    go_wp2
    go_ret
    exact ⟨rfl, rfl⟩

theorem ls_irrefl (a : Nat) : ls a a = false := by unfold ls; simp
theorem sa_refl (a : Nat) : sa a a = true := by unfold sa; simp

theorem less_any (a b : Nat) (w : World) (ha : a < 18446744073709551616) (hb : b < 18446744073709551616) :
    Calls Try.prog 64 #[.float .f64 a, .float .f64 b] w fun e w' => e = .returned (.bool (ls a b)) ∧ w' = w := by
  go_enter Try.func64, Try.ntmps64
  go_wp2_with fail
  refine (rank_any a _ ha).mono ?_
  rintro e w' ⟨rfl, rfl⟩
  go_wp2_with fail
  refine (rank_any b _ hb).mono ?_
  rintro e w' ⟨rfl, rfl⟩
  go_wp2
  go_ret
  exact ⟨rfl, rfl⟩

end Go.Proofs.Ytmlklmhochihbaa
/- What the halving functions answer, by the bits of their arguments. -/
namespace Go.Proofs.Ytmlklmhochihbaa
open Go.RowKit

theorem or_sg (b t : Nat) (h : t < 9223372036854775808) : bits .or .u64 (sg b : Int) (t : Int) = ((sg b + t : Nat) : Int) := by
  have h1 := u64_or_nat (sg b) t (by unfold sg; split <;> omega) (by omega)
  have e : sg b ||| t = sg b + t := by
    unfold sg; split
    · have := Nat.two_pow_add_eq_or_of_lt (i := 63) (b := t) (by omega) 1
      simpa using this.symm
    · simp
  rw [e] at h1
  exact h1

theorem half_any (m : Nat) (w : World) (h : m < 9223372036854775808) :
    Calls Try.prog 89 #[.int .u64 (m : Int)] w fun e w' => e = .returned (.int .u64 (hf m : Int)) ∧ w' = w := by
  obtain ⟨M, hM⟩ : ∃ M : Int, (m : Int) = M := ⟨_, rfl⟩
  have b0 : 0 ≤ M := by omega
  have b1 : M < 9223372036854775808 := by omega
  rw [hM]
  by_cases c1 : 9007199254740992 ≤ m
  · have e : (hf m : Int) = M - 4503599627370496 := by unfold hf; rw [if_pos c1]; omega
    rw [e]
    have c2 : 9007199254740992 ≤ M := by omega
    clear e c1 hM h
    go_enter Try.func89, Try.ntmps89
    go_wp2
    go_ret
    exact ⟨rfl, rfl⟩
  · have c2 : M < 9007199254740992 := by omega
    by_cases c3 : m % 2 = 1
    · have e : (hf m : Int) = M / 2 + M / 2 % 2 := by unfold hf; rw [if_neg c1, if_pos c3]; omega
      rw [e]
      have c4 : (M % 2 == 1) = true := by simp; omega
      clear e c1 hM h c3
      go_enter Try.func89, Try.ntmps89
      go_wp2
      go_ret
      exact ⟨rfl, rfl⟩
    · have e : (hf m : Int) = M / 2 := by unfold hf; rw [if_neg c1, if_neg c3]; omega
      rw [e]
      have c4 : (M % 2 == 1) = false := by simp; omega
      clear e c1 hM h c3
      go_enter Try.func89, Try.ntmps89
      go_wp2
      go_ret
      exact ⟨rfl, rfl⟩

theorem refhalf_any (m : Nat) (w : World) (h : m < 9007199254740992) :
    Calls Try.prog 95 #[.int .u64 (m : Int)] w fun e w' => e = .returned (.int .u64 (hf m : Int)) ∧ w' = w := by
  obtain ⟨M, hM⟩ : ∃ M : Int, (m : Int) = M := ⟨_, rfl⟩
  have b0 : 0 ≤ M := by omega
  have b1 : M < 9007199254740992 := by omega
  rw [hM]
  by_cases c3 : m % 2 = 1
  · have c4 : (M % 2 == 1) = true := by simp; omega
    by_cases c5 : m / 2 % 2 = 1
    · have e : (hf m : Int) = M / 2 + 1 := by unfold hf; rw [if_neg (by omega), if_pos c3]; omega
      rw [e]
      have c6 : (M / 2 % 2 == 1) = true := by simp; omega
      clear e hM h c3 c5
      go_enter Try.func95, Try.ntmps95
      go_wp2
      go_ret
      exact ⟨rfl, rfl⟩
    · have e : (hf m : Int) = M / 2 := by unfold hf; rw [if_neg (by omega), if_pos c3]; omega
      rw [e]
      have c6 : (M / 2 % 2 == 1) = false := by simp; omega
      clear e hM h c3 c5
      go_enter Try.func95, Try.ntmps95
      go_wp2
      go_ret
      exact ⟨rfl, rfl⟩
  · have e : (hf m : Int) = M / 2 := by unfold hf; rw [if_neg (by omega), if_neg c3]; omega
    rw [e]
    have c4 : (M % 2 == 1) = false := by simp; omega
    clear e hM h c3
    go_enter Try.func95, Try.ntmps95
    go_wp2
    go_ret
    exact ⟨rfl, rfl⟩

theorem abs_any (b : Nat) (w : World) (hb : b < 18446744073709551616) :
    Calls Try.prog 102 #[.float .f64 b] w fun e w' => e = .returned (.float .f64 (mg b)) ∧ w' = w := by
  have h1 := bits_run b
  have h2 := andNot_sign b hb
  have h3 := from_run
  go_enter Try.func102, Try.ntmps102
  go_wp2
  go_ret
  exact ⟨rfl, rfl⟩

/-- Is the magnitude that of the infinities, or more? -/
def bg (b : Nat) : Bool := decide (9218868437227405312 ≤ mg b)

theorem isInf0_any (b : Nat) (w : World) (hb : b < 18446744073709551616) (hn : nn b = false) :
    Calls Try.prog 93 #[.float .f64 b, .int .i64 0] w fun e w' => e = .returned (.bool (bg b)) ∧ w' = w := by
  have h : (FloatKind.f64.format.order (mg b) 9218868437227405311 == some Ordering.gt) = bg b := by
    have hm := mg_lt b
    have e0 : mg (mg b) = mg b := by unfold mg; omega
    have e1 : nn (mg b) = false := by rw [nn_false] at hn ⊢; rw [e0]; exact hn
    have e2 : ng (mg b) = false := by unfold ng; simp; omega
    have e3 : sm (mg b) = (mg b : Int) := by unfold sm; rw [e2, e0]; simp
    have e4 : sm 9218868437227405311 = 9218868437227405311 := by decide
    have e5 : nn 9218868437227405311 = false := by decide
    show (Ieee.double.order (mg b) 9218868437227405311 == some Ordering.gt) = bg b
    rw [ord_gt _ _ (by omega) (by decide), e1, e3, e4, e5]
    unfold bg
    rw [Bool.eq_iff_iff]; simp; omega
  go_enter Try.func93, Try.ntmps93
  go_wp2_with (go_at_call 102; refine (abs_any _ _ (by assumption)).mono ?_; rintro e w' ⟨rfl, rfl⟩)
  go_ret
  exact ⟨rfl, rfl⟩

/-- A magnitude without its fraction. -/
def qm (b : Nat) : Int := ((mg b / 4503599627370496 : Nat) : Int)
theorem shrm52 (b : Nat) (t : TypeId) (k : IntKind) : binOp .shr t (.int .u64 (mg b : Int)) (.int k 52) = pure (.int .u64 (qm b)) := by
  rw [binOp_shr, shift_shr .u64 k (mg b : Int) 52 (by decide) (by decide)]
  unfold qm; rfl
theorem shl63_1 (t : TypeId) (k : IntKind) : binOp .shl t (.int .u64 1) (.int k 63) = pure (.int .u64 9223372036854775808) := by
  rw [binOp_shl, shift_shl .u64 k 1 63 (by decide) (by decide)]; rfl
theorem shl63_0 (t : TypeId) (k : IntKind) : binOp .shl t (.int .u64 0) (.int k 63) = pure (.int .u64 0) := by
  rw [binOp_shl, shift_shl .u64 k 0 63 (by decide) (by decide)]; rfl

theorem fl_num {a b : Nat} (h : a = b) : Ending.returned (.float .f64 a) = .returned (.float .f64 b) := by rw [h]

theorem Half_any (b : Nat) (w : World) (hb : b < 18446744073709551616) :
    Calls Try.prog 74 #[.float .f64 b] w fun e w' => e = .returned (.float .f64 (fd b 1)) ∧ w' = w := by
  have n1 := ne_self b hb
  have m1 := mg_lt b
  cases hn : nn b
  · rw [hn] at n1
    cases hg : bg b
    · have hl : mg b < 9218868437227405312 := by unfold bg at hg; simpa using hg
      have h1 := bits_run b
      have h2 := shr63 b hb
      have h3 := andNot_sign b hb
      have h4 := shrm52 b
      have h5 := from_run
      have e : fd b 1 = sg b + hf (mg b) := fd_num b 1 hl
      have hfl := hf_le (mg b)
      have ho := or_sg b (hf (mg b)) (by omega)
      have s1 := shl63_1
      have s0 := shl63_0
      have hsg : ∃ S : Int, (if ng b then (1 : Int) else 0) = S ∧ (∀ (t : TypeId) (k : IntKind), binOp .shl t (.int .u64 S) (.int k 63) = pure (.int .u64 (sg b : Int))) := by
        refine ⟨_, rfl, ?_⟩
        unfold sg; cases ng b
        · exact fun t k => s0 t k
        · exact fun t k => s1 t k
      obtain ⟨S, hS, h6⟩ := hsg
      rw [hS] at h2
      clear s1 s0 hS
      rw [e]
      by_cases c : 9007199254740992 ≤ mg b
      · have hf1 : hf (mg b) = mg b - 4503599627370496 := by unfold hf; rw [if_pos c]
        have q1 : 2 ≤ qm b := by unfold qm; omega
        have g1 : 4503599627370496 ≤ (mg b : Int) := by omega
        have g2 : (mg b : Int) - 4503599627370496 = ((hf (mg b) : Nat) : Int) := by rw [hf1]; omega
        clear e hf1
        go_enter Try.func74, Try.ntmps74
        go_wp2_with (go_at_call 93; refine (isInf0_any _ _ (by assumption) (by assumption)).mono ?_; rintro e w' ⟨rfl, rfl⟩)
        go_ret
        exact ⟨rfl, rfl⟩
      · have q1 : qm b < 2 := by unfold qm; omega
        have c1 : mg b < 9007199254740992 := by omega
        clear e c
        go_enter Try.func74, Try.ntmps74
        go_wp2_with (first
          | (go_at_call 93; refine (isInf0_any _ _ (by assumption) (by assumption)).mono ?_; rintro e w' ⟨rfl, rfl⟩)
          | (go_at_call 95; refine (refhalf_any _ _ (by assumption)).mono ?_; rintro e w' ⟨rfl, rfl⟩))
        go_ret
        exact ⟨rfl, rfl⟩
    · have e : fd b 1 = b := fd_big b 1 (by unfold bg at hg; simpa using hg)
      rw [e]
      clear e
      go_enter Try.func74, Try.ntmps74
      go_wp2_with (go_at_call 93; refine (isInf0_any _ _ (by assumption) (by assumption)).mono ?_; rintro e w' ⟨rfl, rfl⟩)
      go_ret
      exact ⟨rfl, rfl⟩
  · rw [hn] at n1
    have e : fd b 1 = b := fd_big b 1 (by rw [nn_true] at hn; omega)
    rw [e]
    clear e
    go_enter Try.func74, Try.ntmps74
    go_wp2
    go_ret
    exact ⟨rfl, rfl⟩

end Go.Proofs.Ytmlklmhochihbaa
/- What real.Fade and the reference's Fade answer. -/
namespace Go.Proofs.Ytmlklmhochihbaa
open Go.ChangeShapes Go.WideShapes Go.ChangeAt Go.RowKit

theorem int_eq {k : IntKind} {a b : Int} (h : a = b) : Value.int k a = .int k b := by rw [h]
theorem flv_eq {a b : Nat} (h : a = b) : Value.float .f64 a = .float .f64 b := by rw [h]

theorem fade_any (b : Nat) (N : Int) (w : World) (hb : b < 18446744073709551616) (n1 : -9223372036854775808 ≤ N) (n2 : N ≤ 9223372036854775807) :
    Calls Try.prog 72 #[.float .f64 b, .int .i64 N] w fun e w' => e = .returned (.float .f64 (fd b N.toNat)) ∧ w' = w := by
  have m1 := mg_lt b
  by_cases c1 : 9218868437227405312 ≤ mg b
  · rw [fd_big b _ c1]
    have c2 : decide (9218868437227405312 ≤ (mg b : Int)) = true := by simp; omega
    clear c1
    go_enter Try.func72, Try.ntmps72
    go_wp2_with (go_at_call 88; refine (magnitude_any _ _ (by assumption)).mono ?_; rintro e w' ⟨rfl, rfl⟩)
    go_ret
    exact ⟨rfl, rfl⟩
  · have c2 : decide (9218868437227405312 ≤ (mg b : Int)) = false := by simp; omega
    have hl : mg b < 9218868437227405312 := by omega
    have he := fd_num b N.toNat hl
    have H : Hid (fd b N.toNat = sg b + hfi N.toNat (mg b)) := he
    have h5 := from_run
    clear he c1
    go_enter Try.func72, Try.ntmps72
    go_wp2_with (go_at_call 88; refine (magnitude_any _ _ (by assumption)).mono ?_; rintro e w' ⟨rfl, rfl⟩)
    go_loop [1, 5] (fun n m => ∃ k : Nat, k ≤ N.toNat ∧ n = .int .i64 (N - k) ∧ m = .int .u64 ((hfi k (mg b) : Nat) : Int)) (fun n _ => (intOf n).toNat)
    case atStart => exact ⟨0, Nat.zero_le _, int_eq (by omega), rfl⟩
    case round =>
      obtain ⟨k, hk, rfl, rfl⟩ := hrel
      have hm2 := hfi_le k (mg b)
      have hm3 : hfi k (mg b) < 9223372036854775808 := by omega
      have ho := or_sg b (hfi k (mg b)) hm3
      by_cases c3 : 0 < N - (k : Int)
      · by_cases c4 : 0 < hfi k (mg b)
        · have HS : Hid (hfi (k + 1) (mg b) = hf (hfi k (mg b))) := hfi_succ k (mg b)
          go_wp2_with (go_at_call 89; refine (half_any _ _ (by assumption)).mono ?_; rintro e w' ⟨rfl, rfl⟩)
          go_round
          case rel => exact ⟨k + 1, by omega, int_eq (by omega), int_eq (by rw [HS.out])⟩
          case measure => simp [intOf]; omega
        · have HZ : Hid (hfi N.toNat (mg b) = hfi k (mg b)) := by
            have z : hfi k (mg b) = 0 := by omega
            have : hfi N.toNat (mg b) = hfi k (mg b) := by rw [z, hfi_stop k N.toNat (mg b) z hk]
            exact this
          go_wp2_with (go_at_call 91; refine (sign_any _ _ (by assumption)).mono ?_; rintro e w' ⟨rfl, rfl⟩)
          go_ret
          exact ⟨fl_num (by rw [H.out, HZ.out]), rfl⟩
      · have HZ : Hid (N.toNat = k) := by
          have : N.toNat = k := by omega
          exact this
        go_wp2_with (go_at_call 91; refine (sign_any _ _ (by assumption)).mono ?_; rintro e w' ⟨rfl, rfl⟩)
        go_ret
        exact ⟨fl_num (by rw [H.out, HZ.out]), rfl⟩

theorem refFade_any (b : Nat) (N : Int) (w : World) (hb : b < 18446744073709551616) (n1 : -9223372036854775808 ≤ N) (n2 : N ≤ 9223372036854775807) :
    Calls Try.prog 65 #[.float .f64 b, .int .i64 N] w fun e w' => e = .returned (.float .f64 (fd b N.toNat)) ∧ w' = w := by
  have HF : Hid (∀ n : Nat, 2200 ≤ n → fd b n = fd b 2200) := fd_far b
  go_enter Try.func65, Try.ntmps65
  go_wp2
  go_loop [0, 5] (fun x i => ∃ k : Nat, k ≤ N.toNat ∧ k ≤ 2200 ∧ i = .int .i64 k ∧ x = .float .f64 (fd b k)) (fun _ i => 2200 - (intOf i).toNat)
  case atStart => exact ⟨0, Nat.zero_le _, Nat.zero_le _, rfl, flv_eq (fd_zero b hb).symm⟩
  case round =>
    obtain ⟨k, hk, hk2, rfl, rfl⟩ := hrel
    have hl := fd_lt b k hb
    by_cases c1 : (k : Int) < N
    · by_cases c2 : (k : Int) < 2200
      · have HS : Hid (fd (fd b k) 1 = fd b (k + 1)) := fd_fd b k 1
        go_wp2_with (go_at_call 74; refine (Half_any _ _ (by assumption)).mono ?_; rintro e w' ⟨rfl, rfl⟩)
        go_round
        case rel => exact ⟨k + 1, by omega, by omega, by go_num, flv_eq HS.out⟩
        case measure => simp [intOf]; omega
      · go_wp2
        go_ret
        exact ⟨fl_num (by rw [HF.out N.toNat (by omega), show k = 2200 by omega]), rfl⟩
    · go_wp2
      go_ret
      exact ⟨fl_num (by rw [show N.toNat = k by omega]), rfl⟩

end Go.Proofs.Ytmlklmhochihbaa
/- Heats as numbers: brought right, added, faded; a table of them; which key is coldest. -/
namespace Go.Proofs.Ytmlklmhochihbaa
open Go.RowKit

/-- Brought right. -/
def rt (b : Nat) : Nat := if nn b || mg b == 0 then 0 else b
/-- Added, and brought right. -/
def radd (x y : Nat) : Nat := match Ieee.double.add x y with
  | some r => rt r
  | none => 0
theorem rt_lt {b : Nat} (h : b < 18446744073709551616) : rt b < 18446744073709551616 := by unfold rt; split <;> omega
theorem radd_lt (x y : Nat) : radd x y < 18446744073709551616 := by
  unfold radd
  split
  · rename_i r h
    exact rt_lt (Ieee.Format.add_lt _ h)
  · omega
theorem rt_ok (b : Nat) : nn (rt b) = false ∧ (mg (rt b) = 0 → rt b = 0) := by
  unfold rt
  by_cases h : (nn b || mg b == 0) = true
  · rw [if_pos h]; exact ⟨rfl, fun _ => rfl⟩
  · rw [if_neg h]
    simp only [Bool.or_eq_true, not_or, beq_iff_eq, Bool.not_eq_true] at h
    exact ⟨h.1, fun e => absurd e h.2⟩
theorem rt_rt (b : Nat) : rt (rt b) = rt b := by
  obtain ⟨h1, h2⟩ := rt_ok b
  by_cases h : mg (rt b) = 0
  · rw [h2 h]; rfl
  · unfold rt at h h1 ⊢
    split
    · rfl
    · rfl
theorem rt_zero : rt 0 = 0 := rfl
/-- A sum, as the model makes it: where it is none, any number that is no number. -/
theorem add_run (t : TypeId) (x y : Nat) (w : World) : ∃ r w', (binOp .add t (.float .f64 x) (.float .f64 y)).run Try.prog w = .ok (.float .f64 r) w' ∧ r < 18446744073709551616 ∧ rt r = radd x y ∧ (w' = w ∨ w' = w.drew) := by
  cases h : Ieee.double.add x y with
  | some r =>
    refine ⟨r, w, run_float_arith w .add t .f64 x y r h, Ieee.Format.add_lt _ h, ?_, .inl rfl⟩
    unfold radd; rw [h]
  | none =>
    have h' : FloatKind.f64.format.add x y = none := h
    have hq : ∃ n, (choose (.nanBits .f64 x y)).run Try.prog w = .ok n w.drew ∧ ∃ t, n = (t % 2) * 2 ^ 63 + 0x7ff0000000000000 + 1 + (t / 2) % (2 ^ 52 - 1) := by
      refine ⟨_, rfl, w.tape w.drawn (.nanBits .f64 x y), rfl⟩
    obtain ⟨n, hn, s, hs⟩ := hq
    obtain ⟨q, hq, hr⟩ : ∃ q, q < 2 ^ 52 - 1 ∧ (n = 0x7ff0000000000000 + 1 + q ∨ n = 2 ^ 63 + 0x7ff0000000000000 + 1 + q) := by
      refine ⟨(s / 2) % (2 ^ 52 - 1), Nat.mod_lt _ (by decide), ?_⟩
      generalize (s / 2) % (2 ^ 52 - 1) = q at *
      rcases Nat.mod_two_eq_zero_or_one s with e | e <;> rw [e] at hs <;> omega
    clear hs
    refine ⟨n, w.drew, ?_, by omega, ?_, .inr rfl⟩
    · have e : (if (Question.nanBits FloatKind.f64 x y).forced = true then Result.ok 0 w else Result.ok ((Question.nanBits FloatKind.f64 x y).cut (w.tape w.drawn (Question.nanBits FloatKind.f64 x y))) w.drew) = Result.ok n w.drew := hn
      simp [binOp, Op.floatArith, h', Result.andThen, e]
    · unfold radd rt; rw [h]
      have : nn n = true := by rw [nn_true]; unfold mg; omega
      simp [this]

/-- A table: of a key its heat, and when it was told. -/
abbrev Tb := Int → Option (Nat × Nat)
def hof (half now : Nat) (T : Tb) (k : Int) : Nat := match T k with
  | some (b, t) => rt (fd b ((now - t) / half))
  | none => 0
def tdrop (T : Tb) (k : Int) : Tb := fun j => if j = k then none else T j
def tput (T : Tb) (k : Int) (x t : Nat) : Tb := fun j => if j = k then some (x, t) else T j
def tnone : Tb := fun _ => none
def ttouch (half now : Nat) (T : Tb) (k : Int) (y : Nat) : Tb := tput T k (radd (hof half (now + 1) T k) y) (now + 1)
structure Tok (now : Nat) (T : Tb) : Prop where
  lt : ∀ k b t, T k = some (b, t) → b < 18446744073709551616 ∧ t ≤ now
theorem Tok.none (now : Nat) : Tok now tnone := ⟨fun k b t h => by cases h⟩
theorem Tok.drop {now : Nat} {T : Tb} (h : Tok now T) (k : Int) : Tok now (tdrop T k) := ⟨fun j b t e => by
  unfold tdrop at e
  split at e
  · cases e
  · exact h.lt j b t e⟩
theorem Tok.put {now x : Nat} {T : Tb} (h : Tok now T) (k : Int) (hx : x < 18446744073709551616) : Tok (now + 1) (tput T k x (now + 1)) := ⟨fun j b t e => by
  unfold tput at e
  split at e
  · cases e; exact ⟨hx, Nat.le_refl _⟩
  · have := h.lt j b t e
    exact ⟨this.1, by omega⟩⟩
theorem Tok.touch {half now : Nat} {T : Tb} (h : Tok now T) (k : Int) (y : Nat) : Tok (now + 1) (ttouch half now T k y) := h.put k (radd_lt _ _)
theorem Tok.on {now : Nat} {T : Tb} (h : Tok now T) : Tok (now + 1) T := ⟨fun k b t e => by have := h.lt k b t e; exact ⟨this.1, by omega⟩⟩
theorem hof_lt {half now : Nat} {T : Tb} (h : Tok now T) (k : Int) : hof half now T k < 18446744073709551616 := by
  unfold hof
  split
  · rename_i b t e
    exact rt_lt (fd_lt _ _ (h.lt k b t e).1)
  · omega
theorem hof_ok (half now : Nat) (T : Tb) (k : Int) : nn (hof half now T k) = false ∧ (mg (hof half now T k) = 0 → hof half now T k = 0) := by
  unfold hof
  split
  · exact rt_ok _
  · exact ⟨rfl, fun _ => rfl⟩
theorem fd_nought (n : Nat) : fd 0 n = 0 := by
  rw [fd_num 0 n (by decide)]
  have : mg 0 = 0 := rfl
  rw [this, hfi_zero]; rfl
/-- Which of two is colder. -/
def colder (H : Int → Nat) (k b : Int) : Bool := ls (H k) (H b) || (sa (H k) (H b) && decide (k < b))
def coldest (H : Int → Nat) : List Int → Int
  | [] => 0
  | k :: ks => ks.foldl (fun b k => if colder H k b then k else b) k
theorem colder_prog (H : Int → Nat) (k b : Int) : (ls (H k) (H b) || (decide (k < b) && !ls (H b) (H k))) = colder H k b := by
  unfold colder ls sa
  rw [Bool.eq_iff_iff]
  simp
  omega
theorem coldest_next (H : Int → Nat) (ks : List Int) (i : Nat) (h1 : 0 < i) (h : i < ks.length) : coldest H (ks.take (i + 1)) = if colder H (ks.getD i 0) (coldest H (ks.take i)) then ks.getD i 0 else coldest H (ks.take i) := by
  cases ks with
  | nil => simp at h
  | cons k ks =>
    obtain ⟨j, rfl⟩ : ∃ j, i = j + 1 := ⟨i - 1, by omega⟩
    rw [List.take_succ_cons, List.take_succ_cons]
    have hj : j < ks.length := by simpa using h
    show (ks.take (j + 1)).foldl (fun b k => if colder H k b then k else b) k = if colder H ((k :: ks).getD (j + 1) 0) ((ks.take j).foldl (fun b k => if colder H k b then k else b) k) then (k :: ks).getD (j + 1) 0 else (ks.take j).foldl (fun b k => if colder H k b then k else b) k
    rw [List.take_succ_eq_append_getElem hj, List.foldl_append]
    simp [List.getD, hj]
theorem coldest_cons (H : Int → Nat) (k y : Int) (r : List Int) : coldest H (k :: y :: r) = coldest H ((if colder H y k then y else k) :: r) := rfl
theorem coldest_mem (H : Int → Nat) : ∀ ks : List Int, ks ≠ [] → coldest H ks ∈ ks := by
  intro ks hne
  cases ks with
  | nil => exact absurd rfl hne
  | cons k ks =>
    clear hne
    induction ks generalizing k with
    | nil => exact List.mem_cons_self
    | cons x r ih =>
      rw [coldest_cons]
      split
      · exact List.mem_cons_of_mem _ (ih x)
      · rcases List.mem_cons.1 (ih k) with e | e
        · rw [e]; exact List.mem_cons_self
        · exact List.mem_cons_of_mem _ (List.mem_cons_of_mem _ e)
theorem coldest_le (H : Int → Nat) : ∀ ks : List Int, ∀ x ∈ ks, rk (H (coldest H ks)) ≤ rk (H x) := by
  intro ks
  cases ks with
  | nil => intro x hx; cases hx
  | cons k ks =>
    induction ks generalizing k with
    | nil => intro x hx; rw [show x = k by simpa using hx]; exact Int.le_refl _
    | cons y r ih =>
      intro x hx
      rw [coldest_cons]
      by_cases hc : colder H y k = true
      · rw [if_pos hc]
        have hyk : rk (H y) ≤ rk (H k) := by
          unfold colder ls sa at hc
          simp at hc
          omega
        rcases List.mem_cons.1 hx with rfl | hx
        · exact Int.le_trans (ih y y List.mem_cons_self) hyk
        · exact ih y x hx
      · rw [if_neg hc]
        have hyk : rk (H k) ≤ rk (H y) := by
          unfold colder ls sa at hc
          simp at hc
          omega
        rcases List.mem_cons.1 hx with rfl | hx
        · exact ih _ _ List.mem_cons_self
        · rcases List.mem_cons.1 hx with rfl | hx
          · exact Int.le_trans (ih k k List.mem_cons_self) hyk
          · exact ih k x (List.mem_cons_of_mem _ hx)
/-- The least key. -/
theorem coldest_zero (ks : List Int) : ∀ x ∈ ks, coldest (fun _ => 0) ks ≤ x := by
  cases ks with
  | nil => intro x hx; cases hx
  | cons k ks =>
    have hc : ∀ a b : Int, colder (fun _ => 0) a b = decide (a < b) := fun a b => by unfold colder; simp [ls_irrefl, sa_refl]
    induction ks generalizing k with
    | nil => intro x hx; rw [show x = k by simpa using hx]; exact Int.le_refl _
    | cons y r ih =>
      intro x hx
      rw [coldest_cons, hc]
      by_cases h : y < k
      · rw [if_pos (by simpa using h)]
        rcases List.mem_cons.1 hx with rfl | hx
        · exact Int.le_trans (ih y y List.mem_cons_self) (by omega)
        · exact ih y x hx
      · rw [if_neg (by simpa using h)]
        rcases List.mem_cons.1 hx with rfl | hx
        · exact ih _ _ List.mem_cons_self
        · rcases List.mem_cons.1 hx with rfl | hx
          · exact Int.le_trans (ih k k List.mem_cons_self) (by omega)
          · exact ih k x (List.mem_cons_of_mem _ hx)
/-- Halving keeps the order. -/
theorem hf_mono {a b : Nat} (h : a ≤ b) : hf a ≤ hf b := by
  unfold hf
  split <;> split <;> (try split) <;> (try split) <;> omega
theorem hfi_mono (k : Nat) {a b : Nat} (h : a ≤ b) : hfi k a ≤ hfi k b := by
  induction k generalizing a b with
  | zero => exact h
  | succ k ih => rw [hfi_succ, hfi_succ]; exact hf_mono (ih h)
end Go.Proofs.Ytmlklmhochihbaa
/- What a walk is told of bytes: a slice that holds them (whoever's it is), a slice that is the call's own, and what stays where only some blocks turn. -/
namespace Go.Proofs.Ytmlklmhochihbaa
open Go.ChangeShapes Go.WideShapes Go.ChangeAt Go.RowKit Go.Deep

/-- Bytes as values. -/
abbrev u8s (zs : List Nat) : List Value := zs.map fun (z : Nat) => Value.int .u8 (z : Int)

/-- Of what was there only the blocks of R turn. -/
structure But (R : Nat → Prop) (w w' : World) : Prop where
  os : w'.os = w.os
  tape : w'.tape = w.tape
  output : w'.output = w.output
  size : w.heap.size ≤ w'.heap.size
  block : ∀ k, k < w.heap.size → ¬ R k → w'.heap[k]? = w.heap[k]?

theorem But.refl (R : Nat → Prop) (w : World) : But R w w := ⟨rfl, rfl, rfl, Nat.le_refl _, fun _ _ _ => rfl⟩
theorem But.trans {R : Nat → Prop} {a b c : World} (h : But R a b) (k : But R b c) : But R a c :=
  ⟨k.os.trans h.os, k.tape.trans h.tape, k.output.trans h.output, Nat.le_trans h.size k.size, fun i hi hr => (k.block i (Nat.lt_of_lt_of_le hi h.size) hr).trans (h.block i hi hr)⟩
theorem But.mono {R S : Nat → Prop} {a b : World} (h : But R a b) (hs : ∀ k, k < a.heap.size → R k → S k) : But S a b :=
  ⟨h.os, h.tape, h.output, h.size, fun i hi hn => h.block i hi (fun hr => hn (hs i hi hr))⟩
/-- The later part may turn what is new to the first world. -/
theorem But.then {R S : Nat → Prop} {a b c : World} (h : But R a b) (k : But S b c) (hs : ∀ i, i < a.heap.size → S i → R i) : But R a c :=
  ⟨k.os.trans h.os, k.tape.trans h.tape, k.output.trans h.output, Nat.le_trans h.size k.size, fun i hi hr => (k.block i (Nat.lt_of_lt_of_le hi h.size) (fun h' => hr (hs i hi h'))).trans (h.block i hi hr)⟩
theorem But.alloc {R : Nat → Prop} {a w : World} (h : But R a w) (o : Obj) : But R a (w.alloc o) :=
  ⟨h.os, h.tape, h.output, by simp; exact Nat.le_succ_of_le h.size, fun k hk hr => (Below.heap_alloc w o k (Nat.lt_of_lt_of_le hk h.size)).trans (h.block k hk hr)⟩
theorem But.drew {R : Nat → Prop} {a w : World} (h : But R a w) : But R a w.drew := ⟨h.os, h.tape, h.output, h.size, h.block⟩
theorem But.setCell {R : Nat → Prop} {a w : World} (h : But R a w) {p : Addr} (hp : p.block < a.heap.size → R p.block) (u : Value) : But R a (w.setCell p u) :=
  ⟨h.os, h.tape, h.output, by simpa using h.size, fun k hk hr => (Below.heap_setCell w p u k (fun e => hr (by rw [e]; exact hp (by rw [← e]; exact hk)))).trans (h.block k hk hr)⟩
theorem But.grown {R : Nat → Prop} {a w w' : World} {row : Option Nat} (h : But R a w) (hg : w.grownBy w' row) (hr : ∀ k, row = some k → k < a.heap.size → R k) : But R a w' :=
  ⟨hg.os.trans h.os, hg.tape.trans h.tape, hg.output.trans h.output, Nat.le_trans h.size hg.size, fun k hk hn => (hg.block k (Nat.lt_of_lt_of_le hk h.size) (fun e => hn (hr k e.symm hk))).trans (h.block k hk hn)⟩
theorem But.below {R : Nat → Prop} {B : Nat} {w w' : World} (h : But R w w') (hB : B ≤ w.heap.size) (hr : ∀ k, k < B → ¬ R k) : Below B w w' :=
  ⟨h.os, h.tape, h.output, h.size, fun k hk => h.block k (Nat.lt_of_lt_of_le hk hB) (hr k hk)⟩
theorem But.of {R : Nat → Prop} {w w' : World} (h : Below w.heap.size w w') : But R w w' := ⟨h.os, h.tape, h.output, h.size, fun k hk _ => h.block k hk⟩

/-- The slice v holds the bytes zs. -/
def Bs (w : World) (v : Value) (zs : List Nat) : Prop :=
  (∀ z ∈ zs, z < 256) ∧ zs.length ≤ 281474976710656 ∧
  ((zs = [] ∧ (v = .slice none 0 0 ∨ ∃ a cap, v = .slice (some a) 0 cap)) ∨
   (0 < zs.length ∧ ∃ b off cap, v = .slice (some ⟨b, off, none⟩) zs.length cap ∧ zs.length ≤ cap ∧ b < w.heap.size ∧
      ∀ i, i < zs.length → w.cell? ⟨b, off + i, none⟩ = some (.int .u8 (zs.getD i 0 : Nat))))

theorem Bs.keep {w w' : World} {v : Value} {zs : List Nat} (h : Bs w v zs) (hs : w.heap.size ≤ w'.heap.size) (hk : ∀ k, v.ownBlock = some k → k < w.heap.size → w'.heap[k]? = w.heap[k]?) : Bs w' v zs := by
  obtain ⟨h1, h2, h3⟩ := h
  refine ⟨h1, h2, ?_⟩
  rcases h3 with h3 | ⟨h0, b, off, cap, rfl, hcap, hb, hc⟩
  · exact .inl h3
  · exact .inr ⟨h0, b, off, cap, rfl, hcap, by omega, fun i hi => (World.cell?_of_block (hk b rfl hb)).trans (hc i hi)⟩
theorem Bs.but {R : Nat → Prop} {w w' : World} {v : Value} {zs : List Nat} (h : Bs w v zs) (k : But R w w') (hr : ∀ j, v.ownBlock = some j → j < w.heap.size → ¬ R j) : Bs w' v zs :=
  h.keep k.size fun j e hj => k.block j hj (hr j e hj)
theorem Bs.below {w w' : World} {v : Value} {zs : List Nat} (h : Bs w v zs) (k : Below w.heap.size w w') : Bs w' v zs :=
  h.keep k.size fun j _ hj => k.block j hj
theorem Bs.nil (w : World) : Bs w (.slice none 0 0) [] := ⟨by simp, by simp, .inl ⟨rfl, .inl rfl⟩⟩

/-- The slice v holds the bytes zs, and is the call's own (of base or behind it). -/
structure Ow (w : World) (base : Nat) (v : Value) (zs : List Nat) : Prop where
  lt : ∀ z ∈ zs, z < 256
  len : zs.length ≤ 281474976710656
  own : w.ownsRow base 5 1 v zs.length (u8s zs)

theorem Ow.ge {w : World} {base : Nat} {v : Value} {zs : List Nat} (h : Ow w base v zs) : ∀ k, v.ownBlock = some k → base ≤ k ∧ k < w.heap.size := h.own.lt
theorem Ow.mono {w : World} {base base' : Nat} {v : Value} {zs : List Nat} (h : Ow w base v zs) (hb : base' ≤ base) : Ow w base' v zs := by
  obtain ⟨h1, h2, h3, h4⟩ := h
  refine ⟨h1, h2, h3, ?_⟩
  rcases h4 with h4 | ⟨g, cap, cur, e, hg, r⟩
  · exact .inl h4
  · exact .inr ⟨g, cap, cur, e, by omega, r⟩
theorem Ow.but {R : Nat → Prop} {w w' : World} {base : Nat} {v : Value} {zs : List Nat} (h : Ow w base v zs) (k : But R w w') (hr : ∀ j, v.ownBlock = some j → j < w.heap.size → ¬ R j) : Ow w' base v zs := by
  obtain ⟨h1, h2, h3, h4⟩ := h
  refine ⟨h1, h2, h3, ?_⟩
  rcases h4 with h4 | ⟨g, cap, cur, rfl, hg, hh, r⟩
  · exact .inl h4
  · have hlt := lt_of_block hh
    exact .inr ⟨g, cap, cur, rfl, hg, (k.block g hlt (hr g rfl hlt)).trans hh, r⟩
theorem Ow.nil (w : World) (base : Nat) : Ow w base (.slice none 0 0) [] := ⟨by simp, by simp, World.ownsRow_nil _ _ _ _⟩

theorem u8s_get (zs : List Nat) (i : Nat) (h : i < zs.length) : (u8s zs)[i]? = some (.int .u8 (zs.getD i 0 : Nat)) := by
  simp [u8s, h]
theorem u8s_one (zs : List Nat) : ∀ u ∈ u8s zs, u.oneCell' = true := by
  intro u hu; obtain ⟨z, _, rfl⟩ := List.mem_map.1 hu; rfl
theorem getD_mem (zs : List Nat) (i : Nat) (h : i < zs.length) : zs.getD i 0 ∈ zs := by
  simp [List.getD, List.getElem?_eq_getElem h]

/-- An own slice's shape. -/
theorem Ow.shape {w : World} {base : Nat} {v : Value} {zs : List Nat} (h : Ow w base v zs) :
    (v = .slice none 0 0 ∧ zs = []) ∨ ∃ g cap, v = .slice (some ⟨g, 0, none⟩) zs.length cap ∧ zs.length ≤ cap ∧ base ≤ g ∧ g < w.heap.size ∧ (∀ j, w.frozen? ⟨g, j, none⟩ = false) ∧
      ∀ i, i < zs.length → w.cell? ⟨g, i, none⟩ = some (.int .u8 (zs.getD i 0 : Nat)) := by
  have h' := h.own
  obtain ⟨h1, h2, h3, h4⟩ := h
  rcases h4 with ⟨rfl, h0⟩ | ⟨g, cap, cur, rfl, hg, hh, hcap, _, _, _⟩
  · exact .inl ⟨rfl, List.eq_nil_of_length_eq_zero h0⟩
  · refine .inr ⟨g, cap, rfl, hcap, hg, lt_of_block hh, fun j => h'.frozenAt j, fun i hi => ?_⟩
    rw [h'.cellAt i (by omega), u8s_get zs i hi]
theorem Ow.bs {w : World} {base : Nat} {v : Value} {zs : List Nat} (h : Ow w base v zs) : Bs w v zs := by
  refine ⟨h.lt, h.len, ?_⟩
  rcases h.shape with ⟨rfl, rfl⟩ | ⟨g, cap, rfl, hcap, _, hg, _, hc⟩
  · exact .inl ⟨rfl, .inl rfl⟩
  · by_cases h0 : zs.length = 0
    · have := List.eq_nil_of_length_eq_zero h0
      subst this
      exact .inl ⟨rfl, .inr ⟨_, _, rfl⟩⟩
    · exact .inr ⟨by omega, g, 0, cap, rfl, hcap, hg, fun i hi => by rw [Nat.zero_add]; exact hc i hi⟩

section
variable {H : Type} {enc : TypeId × Value → H} {P : Program} {w : World} {base : Nat} {spare : Nat → Bool} {held : Bool}

/-- Bytes that came in. -/
theorem view_bytes {t e : TypeId} {v : Value} {d : DataW H} {ps : List MemPlace} {r : Reach} {b0 : Nat} {ts : List TypeId} {ds : List (DataW H)} {j : Nat}
    (hu : P.underlying t = some (.slice e)) (hf : P.underlying e = some (.int .u8)) (hc : P.cellsOf e = 1) (hb : P.bytesOf e = 1)
    (hval : Value.okWide P w r b0 t v) (h : DataW.Trod enc P w base spare held t v d ps) (hlt : ∀ x ∈ ps, x.block < w.heap.size)
    (hsz : (DataW.weightsEach P ts ds).all (· ≤ reachBytes) = true) (ht : ts[j]? = some t) (hd : ds[j]? = some d) : ∃ zs, Bs w v zs ∧ zs.length ≤ 140737488351232 := by
  obtain ⟨a0, len, cap, rfl⟩ := okWide_slice hu hval
  obtain ⟨fuel, hf1⟩ := h
  rcases open_slice1 hu hc hf1 with ⟨hcs, _⟩ | ⟨a, len', cap', m, n, V, D, Pl, hcs, _, hl, hm, hmm, hx, hcell⟩
  · simp [Value.cells] at hcs
    obtain ⟨rfl, rfl, rfl⟩ := hcs
    exact ⟨[], Bs.nil _, by simp⟩
  · simp [Value.cells] at hcs
    obtain ⟨rfl, rfl, rfl⟩ := hcs
    simp only [Prod.mk.injEq] at hx
    obtain ⟨rfl, rfl⟩ := hx
    have hlm : len ≤ m := by rw [hmm]; split <;> omega
    have hreach : len * 1 ≤ 140737488351232 := by
      have := sized_slice hsz ht hd hu
      rw [hb] at this
      simp only [List.length_map, List.length_range, reachBytes] at this
      omega
    have hfl : ∀ i, i < len → ∃ b : Nat, V i = .int .u8 (b : Int) ∧ b < 256 := by
      intro i hi
      obtain ⟨b, hb1, _, hw0⟩ := DataW.trod_int hf (hcell i (by omega)).2
      obtain ⟨hw, hw2⟩ : 0 ≤ b ∧ b < 256 := by
        have h8 : IntKind.u8.min ≤ b ∧ b ≤ IntKind.u8.max := by simpa [Lit.wf, go_sem] using hw0
        have e1 : IntKind.u8.min = 0 := rfl
        have e2 : IntKind.u8.max = 255 := rfl
        omega
      simp only [List.cons.injEq, and_true] at hb1
      exact ⟨b.toNat, by rw [hb1, Int.toNat_of_nonneg hw], by omega⟩
    obtain ⟨B, hB⟩ := choose_lt (α := Nat) (p := fun i b => V i = .int .u8 (b : Int) ∧ b < 256) hfl
    refine ⟨(List.range len).map B, ⟨?_, by simp; omega, ?_⟩, by simpa using hreach⟩
    · intro z hz
      obtain ⟨i, hi, rfl⟩ := List.mem_map.1 hz
      exact (hB i (by simpa using hi)).2
    · by_cases h0 : len = 0
      · subst h0; exact .inl ⟨by simp, .inr ⟨_, _, rfl⟩⟩
      · right
        obtain ⟨b, off, spot⟩ := a
        have hspot : spot = none := by simpa [Addr.add] using World.cell?_spot (hcell 0 (by omega)).1
        subst hspot
        refine ⟨by simp; omega, b, off, cap, by simp, by simpa using hl, hlt (.cell b off) (List.mem_append_left _ (MemPlace.mem_row.2 ⟨0, by omega, by simp⟩)), ?_⟩
        intro i hi
        have hi' : i < len := by simpa using hi
        rw [← add_plain, (hcell i (by omega)).1, (hB i hi').1]
        simp [hi']
end
end Go.Proofs.Ytmlklmhochihbaa
/- Blocks of cells (as ShaPut, ShaMem, ShaSum and MacBlock have them; for cuts without these). -/
namespace Go.Proofs.Ytmlklmhochihbaa
open Go.RowKit

theorem Hid.mk' {p : Prop} (h : p) : Hid p := h
/-- A block of these cells. -/
def Blk (w : World) (g : Nat) (T : TypeId) (L : List Value) : Prop := w.heap[g]? = some (.cells L.toArray T (0, 0))
theorem Blk.set {w : World} {g : Nat} {T : TypeId} {L : List Value} (h : Blk w g T L) (i : Nat) (v : Value) : Blk (w.setCell ⟨g, i, none⟩ v) g T (L.set i v) := by
  unfold Blk at h ⊢
  rw [heap_setCell_same w g i _ _ _ h]
  simp
theorem Blk.cell {w : World} {g : Nat} {T : TypeId} {L : List Value} (h : Blk w g T L) (i : Nat) : w.cell? ⟨g, i, none⟩ = L[i]? := by
  rw [cell_of_row w g i _ _ _ h]; simp
theorem Blk.free {w : World} {g : Nat} {T : TypeId} {L : List Value} (h : Blk w g T L) (i : Nat) : w.frozen? ⟨g, i, none⟩ = false := frozen_of_row w g i _ _ h
theorem Blk.but {R : Nat → Prop} {w w' : World} {g : Nat} {T : TypeId} {L : List Value} (h : Blk w g T L) (k : But R w w') (hr : ¬ R g) : Blk w' g T L := (k.block g (lt_of_block h) hr).trans h
theorem Blk.lt {w : World} {g : Nat} {T : TypeId} {L : List Value} (h : Blk w g T L) : g < w.heap.size := lt_of_block h

theorem Blk.new {w : World} {g : Nat} {T : TypeId} {L : List Value} (h : w.heap.size = g) : Blk (w.alloc (.cells L.toArray T)) g T L := by
  subst h; exact heap_alloc_new _ _
theorem run_storeVar_at (w : World) (g off : Nat) (t ty : TypeId) (A old B vs : List Value) (hb : Blk w g t (A ++ old ++ B)) (hA : A.length = off) (ho : old.length = vs.length) (hi : (Try.prog.info? ty).map (·.size) = some vs.length)
    (h1 : ∀ v ∈ vs, v.oneCell' = true) : ∃ w', (storeVar ty ⟨g, off, none⟩ (.agg vs.toArray)).run Try.prog w = .ok () w' ∧ Blk w' g t (A ++ vs ++ B) ∧ But (· = g) w w' := by
  have hst := run_storeCells_at (P := Try.prog) g off t vs 0 _ w hb (by simp; omega) h1
  refine ⟨_, ?_, setRow_heap w g _ _ t _ hb, ⟨rfl, rfl, rfl, by simp, fun k _ hk => setRow_other w g k _ (fun e => hk (by rw [e]))⟩⟩
  have e : (A ++ old ++ B).toArray.toList.take (off + 0) ++ vs ++ (A ++ old ++ B).toArray.toList.drop (off + 0 + vs.length) = A ++ vs ++ B := by
    subst hA
    rw [← ho]
    simp [List.drop_append]
  rw [e] at hst
  cases hq : Try.prog.info? ty with
  | none => simp [hq] at hi
  | some i =>
    have hs : vs.length = i.size := by simp [hq] at hi; omega
    simp [storeVar, sizeOf, typeInfo, hq, Value.cells, hs, hst]
theorem wpList_store_at {w : World} {ops : Array Oper} {rest : List Oper} {o : Oper} {a : Act} {Q : Exit → Act → World → Prop} (hgd : o.guard = none) (ty : TypeId) (x y : Operand) (ho : o.op = .store ty x y)
    (g off : Nat) (vs : List Value) (hx : a.eval x = .pointer (some ⟨g, off, none⟩)) (hy : a.eval y = .agg vs.toArray)
    (t : TypeId) (A old B : List Value) (hb : Blk w g t (A ++ old ++ B)) (hA : A.length = off) (hold : old.length = vs.length) (hi : (Try.prog.info? ty).map (·.size) = some vs.length)
    (h1 : ∀ v ∈ vs, v.oneCell' = true) (h : ∀ w', Blk w' g t (A ++ vs ++ B) → But (· = g) w w' → wpList Try.prog ops Q rest (a.put o.dst undef) w') : wpList Try.prog ops Q (o :: rest) a w :=
  wpList_plain hgd fun _ hK => by
    obtain ⟨w', hr, hbl, hbt⟩ := run_storeVar_at w g off t ty A old B vs hb hA hold hi h1
    unfold Oper.wp execOp
    simp only [ho, hx, hy, Instr.storeAt, Instr.sureAddr, Sem.run_bind, Sem.run_pure, Result.andThen_ok, hr]
    exact hK _ _ (h w' hbl hbt)
theorem Blk.row {w : World} {g : Nat} {t : TypeId} {L : List Value} (h : Blk w g t L) (M : List Value) : Blk (w.setRow g M.toArray) g t M := setRow_heap w g _ _ t _ h
theorem But.setRow {R : Nat → Prop} {a w : World} (h : But R a w) {g : Nat} (hg : g < a.heap.size → R g) (c : Array Value) : But R a (w.setRow g c) :=
  ⟨h.os, h.tape, h.output, by simp; exact h.size, fun k hk hr => (setRow_other w g k _ (fun e => hr (by rw [e]; exact hg (by rw [← e]; exact hk)))).trans (h.block k hk hr)⟩
/-- A whole array of bytes into a variable that is made for it. -/
theorem wpList_store_u8s {T : TypeId} {n : Nat} (hi : (Try.prog.info? T).map (·.size) = some n) {w : World} {ops : Array Oper} {rest : List Oper} {o : Oper} {a : Act} {Q : Exit → Act → World → Prop} (hgd : o.guard = none) (x y : Operand) (ho : o.op = .store T x y)
    (g : Nat) (D : List Nat) (hD : D.length = n) (hx : a.eval x = .pointer (some ⟨g, 0, none⟩)) (hy : a.eval y = .agg (u8s D).toArray) (L : List Value) (hL : L.length = n) (hb : Blk w g T L)
    (h : ∀ w', Blk w' g T (u8s D) → But (· = g) w w' → wpList Try.prog ops Q rest (a.put o.dst undef) w') : wpList Try.prog ops Q (o :: rest) a w := by
  refine wpList_store_at hgd T x y ho g 0 (u8s D) hx hy T [] L [] (by simpa using hb) rfl (by simp [u8s, hD, hL]) (by rw [hi]; simp [u8s, hD]) (u8s_one _) ?_
  intro w' hb' hb2
  exact h w' (by simpa using hb') hb2
/-- A whole array of bytes out of a variable. -/
theorem wpList_load_u8s {T : TypeId} {n : Nat} {l : Nat} {e : TypeId} (hu : Try.prog.underlying T = some (.array l e)) (hi : (Try.prog.info? T).map (·.size) = some n)
    {w : World} {ops : Array Oper} {rest : List Oper} {o : Oper} {a : Act} {Q : Exit → Act → World → Prop} (hgd : o.guard = none) (x : Operand) (ho : o.op = .load T x)
    (g : Nat) (D : List Nat) (hD : D.length = n) (hx : a.eval x = .pointer (some ⟨g, 0, none⟩)) (hb : Blk w g T (u8s D))
    (h : wpList Try.prog ops Q rest (a.put o.dst (.agg (u8s D).toArray)) w) : wpList Try.prog ops Q (o :: rest) a w :=
  wpList_load_row hgd T x ho g hx T _ (0, 0) _ hb hu rfl (by rw [hi]; simp [u8s, hD]) h
theorem u8s_set (L : List Nat) (k x : Nat) : (u8s L).set k (.int .u8 (x : Int)) = u8s (L.set k x) := by simp [u8s, List.map_set]
theorem But.drewN {R : Nat → Prop} {a w : World} (h : But R a w) {n : Nat} : But R a (w.drewN n) := ⟨h.os, h.tape, h.output, h.size, h.block⟩
/-- A whole array of bytes into a variable, as one operation. -/
theorem op_store_u8s {T : TypeId} {n : Nat} (hi : (Try.prog.info? T).map (·.size) = some n) {w : World} {o : Oper} {a : Act} {K : Act → World → Prop} {Q : Exit → Act → World → Prop} (x y : Operand) (ho : o.op = .store T x y)
    (g : Nat) (D : List Nat) (hD : D.length = n) (hx : a.eval x = .pointer (some ⟨g, 0, none⟩)) (hy : a.eval y = .agg (u8s D).toArray) (L : List Value) (hL : L.length = n) (hb : Blk w g T L)
    (h : ∀ w', Blk w' g T (u8s D) → But (· = g) w w' → K (a.put o.dst undef) w') : o.wp Try.prog a w K Q := by
  obtain ⟨w', hr, hbl, hbt⟩ := run_storeVar_at w g 0 T T [] L [] (u8s D) (by simpa using hb) rfl (by simp [u8s, hD, hL]) (by rw [hi]; simp [u8s, hD]) (u8s_one _)
  unfold Oper.wp execOp
  simp only [ho, hx, hy, Instr.storeAt, Instr.sureAddr, Sem.run_bind, Sem.run_pure, Result.andThen_ok, hr]
  exact h w' (by simpa using hbl) hbt
/-- A whole array of bytes out of a variable, as one operation. -/
theorem op_load_u8s {T : TypeId} {n l : Nat} {e : TypeId} (hu : Try.prog.underlying T = some (.array l e)) (hi : (Try.prog.info? T).map (·.size) = some n)
    {w : World} {o : Oper} {a : Act} {K : Act → World → Prop} {Q : Exit → Act → World → Prop} (x : Operand) (ho : o.op = .load T x)
    (g : Nat) (D : List Nat) (hD : D.length = n) (hx : a.eval x = .pointer (some ⟨g, 0, none⟩)) (hb : Blk w g T (u8s D))
    (h : K (a.put o.dst (.agg (u8s D).toArray)) w) : o.wp Try.prog a w K Q :=
  wp_load_row T x ho g hx T _ (0, 0) _ hb hu rfl (by rw [hi]; simp [u8s, hD]) h
theorem run_loadVar_cells (w : World) (ad : Addr) (ty : TypeId) (cs : List Value) (d : TypeDesc) (hc : ∀ j v, cs[j]? = some v → w.cell? (ad.add j) = some v)
    (hu : Try.prog.underlying ty = some d) (hd : (match d with | .struct _ | .array _ _ => true | _ => false) = true) (hi : (Try.prog.info? ty).map (·.size) = some cs.length) :
    (loadVar ty ad).run Try.prog w = .ok (.agg cs.toArray) w := by
  have hl : (loadCells ad cs.length).run Try.prog w = .ok cs.toArray w := run_loadCells_list (P := Try.prog) w ad cs hc
  cases hq : Try.prog.info? ty with
  | none => simp [hq] at hi
  | some i =>
    have hs : i.size = cs.length := by simpa [hq] using hi
    have hagg : (isAgg ty).run Try.prog w = .ok true w := by
      unfold isAgg
      rw [Sem.run_bind, run_underlying hu w]
      cases d <;> simp_all
    simp [loadVar, Sem.run_bind, hagg, sizeOf, typeInfo, hq, hs, hl]
theorem wpList_load_cells {ops : Array Oper} {rest : List Oper} {o : Oper} {a : Act} {w : World} {Q : Exit → Act → World → Prop} (hgd : o.guard = none) (ty : TypeId) (x : Operand) (ho : o.op = .load ty x)
    (ad : Addr) (hx : a.eval x = .pointer (some ad)) (cs : List Value) (d : TypeDesc) (hc : ∀ j v, cs[j]? = some v → w.cell? (ad.add j) = some v)
    (hu : Try.prog.underlying ty = some d) (hd : (match d with | .struct _ | .array _ _ => true | _ => false) = true) (hi : (Try.prog.info? ty).map (·.size) = some cs.length)
    (h : wpList Try.prog ops Q rest (a.put o.dst (.agg cs.toArray)) w) : wpList Try.prog ops Q (o :: rest) a w :=
  wpList_plain hgd fun _ hK => by
    unfold Oper.wp execOp
    simp only [ho, hx, Instr.loadAt, Instr.sureAddr, Sem.run_bind, Sem.run_pure, Result.andThen_ok, run_loadVar_cells w ad ty cs d hc hu hd hi]
    exact hK _ _ h
end Go.Proofs.Ytmlklmhochihbaa
/- Maps in memory whose keys are arrays or structs: what a look-up tells, what an update leaves. -/
namespace Go.Proofs.Ytmlklmhochihbaa
open Go.RowKit Go.ChangeMaps Go.WideMaps Go.MapKept
section
variable {P : Program} {w : World} {b : Nat} {M : List (Value × Value)} {t kt et : TypeId}

/-- A map's block: these keys, each with its element. -/
structure Mp (P : Program) (kt : TypeId) (w : World) (b : Nat) (M : List (Value × Value)) : Prop where
  blk : ∃ es clock, w.heap[b]? = some (.map es clock) ∧ es.toList.map (fun e => (e.key, e.val)) = M
  key : ∀ p ∈ M, ∃ l, keyOf P kt p.1 = some l
  apart : M.Pairwise (fun p q => p.1 ≠ q.1)
theorem Mp.lt (h : Mp P kt w b M) : b < w.heap.size := by
  obtain ⟨⟨es, c, h, _⟩, _⟩ := h
  exact (Array.getElem?_eq_some_iff.1 h).1
theorem Mp.but {R : Nat → Prop} {w' : World} (h : Mp P kt w b M) (k : But R w w') (hr : ¬ R b) : Mp P kt w' b M := by
  have hl := h.lt
  obtain ⟨⟨es, c, h1, h2⟩, h3, h4⟩ := h
  exact ⟨⟨es, c, (k.block b hl hr).trans h1, h2⟩, h3, h4⟩
theorem Mp.new (g : Nat) (h : w.heap.size = g) : Mp P kt (w.alloc (.map #[] 0)) g [] := by
  subst h
  exact ⟨⟨#[], 0, heap_alloc_new _ _, rfl⟩, fun p hp => absurd hp List.not_mem_nil, .nil⟩
theorem Mp.uniq (h : Mp P kt w b M) {k u v : Value} (hu : (k, u) ∈ M) (hv : (k, v) ∈ M) : u = v := by
  have : ∀ {L : List (Value × Value)}, L.Pairwise (fun p q => p.1 ≠ q.1) → (k, u) ∈ L → (k, v) ∈ L → u = v := by
    intro L hp
    induction hp with
    | nil => intro h; cases h
    | cons hx _ ih =>
      intro h1 h2
      rcases List.mem_cons.1 h1 with e1 | g1
      · rcases List.mem_cons.1 h2 with e2 | g2
        · exact (Prod.mk.inj (e1.trans e2.symm)).2
        · exact (hx _ g2 (by rw [← e1])).elim
      · rcases List.mem_cons.1 h2 with e2 | g2
        · exact (hx _ g1 (by rw [← e2])).elim
        · exact ih g1 g2
  exact this h.apart hu hv
theorem Mp.look (K : KeyLaw P kt) (ht : P.underlying t = some (.map kt et)) {z : Value} (hz : (zeroValue et).run P w = .ok z w) (h : Mp P kt w b M) {key : Value} {l : Lit} (hkey : keyOf P kt key = some l) (c : Bool) :
    (∀ v, (key, v) ∈ M → (Instr.lookup t (.map (some b)) key c).run P w = .ok (if c then .tuple #[v, .bool true] else v) w) ∧ ((∀ p ∈ M, p.1 ≠ key) → (Instr.lookup t (.map (some b)) key c).run P w = .ok (if c then .tuple #[z, .bool false] else z) w) := by
  have hu := fun u v => h.uniq (k := key) (u := u) (v := v)
  obtain ⟨⟨es, clock, hb, rfl⟩, hk, _⟩ := h
  have hks : ∀ e ∈ es.toList, ∃ l, keyOf P kt e.key = some l := fun e he => hk (e.key, e.val) (List.mem_map.2 ⟨e, he, rfl⟩)
  rcases K.find w hkey es.toList hks with ⟨h1, h2⟩ | ⟨j, e0, h1, h2, h3⟩
  · refine ⟨fun v hv => ?_, fun _ => by simp [Instr.lookup, run_underlying ht, MapKept.run_getObj_map hb, K.check w _ hkey, h1, hz, Result.andThen]⟩
    obtain ⟨e, he, e2⟩ := List.mem_map.1 hv
    exact absurd (Prod.mk.inj e2).1 (h2 e he)
  · have hm0 : e0 ∈ es.toList := List.mem_of_getElem? h2
    have hm : (key, e0.val) ∈ es.toList.map (fun e => (e.key, e.val)) := List.mem_map.2 ⟨e0, hm0, by rw [h3]⟩
    refine ⟨fun v hv => ?_, fun hn => absurd rfl (hn _ hm)⟩
    rw [hu v e0.val hv hm]
    simp [Instr.lookup, run_underlying ht, MapKept.run_getObj_map hb, K.check w _ hkey, h1, Result.andThen]
/-- In no map nothing is found. -/
theorem look_none (K : KeyLaw P kt) (ht : P.underlying t = some (.map kt et)) {z : Value} (hz : (zeroValue et).run P w = .ok z w) {key : Value} {l : Lit} (hkey : keyOf P kt key = some l) (c : Bool) :
    (Instr.lookup t (.map none) key c).run P w = .ok (if c then .tuple #[z, .bool false] else z) w := by
  rcases K.find w hkey [] (fun e he => absurd he List.not_mem_nil) with ⟨h1, h2⟩ | ⟨j, e0, h1, h2, h3⟩
  · simp [Instr.lookup, run_underlying ht, K.check w _ hkey, h1, hz, Result.andThen]
  · simp at h2
/-- A key that was there has another element, all others stay; a new one is behind them. -/
theorem Mp.put (K : KeyLaw P kt) (ht : P.underlying t = some (.map kt et)) (h : Mp P kt w b M) {key v : Value} {l : Lit} (hkey : keyOf P kt key = some l) :
    ∃ w' M', (Instr.mapUpdate t (.map (some b)) key v).run P w = .ok () w' ∧ Mp P kt w' b M' ∧ But (· = b) w w' ∧ (key, v) ∈ M' ∧ ∀ k u, k ≠ key → ((k, u) ∈ M' ↔ (k, u) ∈ M) := by
  obtain ⟨⟨es, clock, hb, rfl⟩, hk, hap⟩ := h
  have hlt := (Array.getElem?_eq_some_iff.1 hb).1
  have hks : ∀ e ∈ es.toList, ∃ l, keyOf P kt e.key = some l := fun e he => hk (e.key, e.val) (List.mem_map.2 ⟨e, he, rfl⟩)
  have hset : ∀ es' clock', (setBlock w b (.map es' clock')).heap[b]? = some (.map es' clock') ∧ But (· = b) w (setBlock w b (.map es' clock')) := fun es' clock' =>
    ⟨by simp [setBlock, hlt], ⟨rfl, rfl, rfl, by simp [setBlock], fun k _ hk => by simp only [setBlock]; rw [Array.getElem?_setIfInBounds_ne (fun e => hk e.symm)]⟩⟩
  rcases K.find w hkey es.toList hks with ⟨h1, h2⟩ | ⟨j, e0, h1, h2, h3⟩
  · refine ⟨setBlock w b (.map (es.push ⟨key, v, clock⟩) (clock + 1)), es.toList.map (fun e => (e.key, e.val)) ++ [(key, v)], ?_, ⟨⟨_, _, (hset _ _).1, by simp⟩, ?_, ?_⟩, (hset _ _).2, by simp, fun k u hne => ?_⟩
    · simp [Instr.mapUpdate, run_underlying ht, MapKept.run_getObj_map hb, K.check w false hkey, h1, MapKept.run_setObj_map _ hb, Result.andThen, setBlock]
    · intro p hp
      rcases List.mem_append.1 hp with hp | hp
      · exact hk p hp
      · obtain rfl : p = (key, v) := by simpa using hp
        exact ⟨l, hkey⟩
    · refine List.pairwise_append.2 ⟨hap, List.pairwise_singleton _ _, fun p hp q hq => ?_⟩
      obtain rfl : q = (key, v) := by simpa using hq
      obtain ⟨e, he, rfl⟩ := List.mem_map.1 hp
      exact h2 e he
    · constructor
      · intro h
        rcases List.mem_append.1 h with h | h
        · exact h
        · simp at h; exact absurd h.1 hne
      · exact fun h => List.mem_append_left _ h
  · have hlt2 : j < es.size := by
      have := (List.getElem?_eq_some_iff.1 h2).1
      simpa using this
    have hej : es[j]? = some e0 := by simpa using h2
    have hst := K.stays w hkey
    have hg : es[j] = e0 := by rw [Array.getElem?_eq_getElem hlt2] at hej; exact Option.some.inj hej
    have hmod : (es.modify j fun e => { e with key := key, val := v }).toList = es.toList.set j { e0 with key := key, val := v } := by
      apply List.ext_getElem?
      intro i
      rw [← Array.getElem?_toList.symm, Array.getElem?_modify, List.getElem?_set]
      by_cases hij : j = i
      · subst hij; simp [hlt2, hg]
      · simp [hij]
    have hmap : (es.toList.set j { e0 with key := key, val := v }).map (fun e => (e.key, e.val)) = (es.toList.map (fun e => (e.key, e.val))).set j (key, v) := by rw [List.map_set]
    have hkeys : ((es.toList.map (fun e => (e.key, e.val))).set j (key, v)).map Prod.fst = (es.toList.map (fun e => (e.key, e.val))).map Prod.fst := by
      rw [List.map_set]
      apply List.ext_getElem?
      intro i
      rw [List.getElem?_set]
      by_cases hij : j = i
      · subst hij
        simp [h3, hlt2, hg]
      · simp [hij]
    refine ⟨setBlock w b (.map (es.modify j fun e => { e with key := key, val := v }) clock), (es.toList.map (fun e => (e.key, e.val))).set j (key, v), ?_, ⟨⟨_, _, (hset _ _).1, by rw [hmod, hmap]⟩, ?_, ?_⟩, (hset _ _).2, ?_, fun k u hne => ?_⟩
    · simp [Instr.mapUpdate, run_underlying ht, MapKept.run_getObj_map hb, K.check w false hkey, h1, hej, h3, hst, MapKept.run_setObj_map _ hb, Result.andThen, setBlock]
    · intro p hp
      rcases List.mem_or_eq_of_mem_set hp with hp | rfl
      · exact hk p hp
      · exact ⟨l, hkey⟩
    · have : ((es.toList.map (fun e => (e.key, e.val))).map Prod.fst).Pairwise (· ≠ ·) := List.pairwise_map.2 hap
      rw [← hkeys] at this
      exact List.pairwise_map.1 this
    · exact List.mem_iff_getElem?.2 ⟨j, by rw [List.getElem?_set]; simp [hlt2]⟩
    · constructor
      · intro h
        rcases List.mem_or_eq_of_mem_set h with h | h
        · exact h
        · exact absurd (Prod.mk.inj h).1 hne
      · intro h
        obtain ⟨i, hi⟩ := List.mem_iff_getElem?.1 h
        refine List.mem_iff_getElem?.2 ⟨i, ?_⟩
        rw [List.getElem?_set]
        by_cases hij : j = i
        · subst hij
          simp [hej, h3] at hi
          exact absurd hi.1.symm hne
        · simpa [hij] using hi
end
/-- Keys that are bytes. -/
theorem mapM_some {α β : Type} {f : α → Option β} : ∀ {l : List α}, (∀ a ∈ l, ∃ b, f a = some b) → ∃ r, l.mapM f = some r
  | [], _ => ⟨[], rfl⟩
  | a :: l, h => by
    obtain ⟨b, hb⟩ := h a List.mem_cons_self
    obtain ⟨r, hr⟩ := mapM_some (l := l) (fun x hx => h x (List.mem_cons_of_mem _ hx))
    exact ⟨b :: r, by simp [List.mapM_cons, hb, hr]⟩
theorem lits_u8s {t : TypeId} {n d : Nat} (ht : Try.prog.underlying t = some (.array n 5)) (hc : Try.prog.cellsOf t = n) (D : List Nat) (hl : D.length = n) (hb : ∀ z ∈ D, z < 256) : ∃ ls, Try.prog.keyLits (d + 2) t (u8s D) = some ls := by
  have h1 : Try.prog.cellsOf 5 = 1 := by kernel_rfl
  obtain ⟨r, hr⟩ := mapM_some (l := List.range n) (f := fun i => Try.prog.keyLits (d + 1) 5 (((u8s D).drop (i * 1)).take 1)) (by
    intro i hi
    have hi' : i < D.length := by rw [hl]; simpa using hi
    refine ⟨[.int .u8 (D.getD i 0 : Nat)], ?_⟩
    have e : ((u8s D).drop (i * 1)).take 1 = [.int .u8 (D.getD i 0 : Nat)] := by
      rw [Nat.mul_one]
      have hg : (u8s D)[i]? = some (.int .u8 (D.getD i 0 : Nat)) := u8s_get D i hi'
      have hlt : i < (u8s D).length := by simpa [u8s] using hi'
      rw [List.drop_eq_getElem_cons hlt]
      simp only [List.take_succ_cons, List.take_zero]
      rw [List.getElem?_eq_getElem hlt] at hg
      rw [Option.some.inj hg]
    rw [e]
    have hw : D.getD i 0 < 256 := hb _ (getD_mem D i hi')
    have hwf : (Lit.int .u8 (D.getD i 0 : Nat)).wf = true := by
      have e1 : IntKind.u8.min = 0 := rfl
      have e2 : IntKind.u8.max = 255 := rfl
      simp only [Lit.wf, e1, e2, Bool.and_eq_true, decide_eq_true_eq]
      omega
    simp only [Program.keyLits, Try.underlying5, hwf]
    simp)
  have hlen : (u8s D).length = n := by simpa [u8s] using hl
  refine ⟨r.flatten, ?_⟩
  unfold Program.keyLits
  simp only [ht, hc, hlen, h1, if_true]
  rw [hr]; rfl
theorem key_u8s {t : TypeId} {n : Nat} (ht : Try.prog.underlying t = some (.array n 5)) (hc : Try.prog.cellsOf t = n) (hk : Try.prog.keyType t = true) (hsz : 1 ≤ Try.prog.types.size) (D : List Nat) (hl : D.length = n) (hb : ∀ z ∈ D, z < 256) : ∃ l, keyOf Try.prog t (.agg (u8s D).toArray) = some l := by
  obtain ⟨m, hm⟩ : ∃ m, Try.prog.types.size = m + 1 := ⟨Try.prog.types.size - 1, by omega⟩
  obtain ⟨ls, h⟩ := lits_u8s (d := m) ht hc D hl hb
  have hf : Value.formed Try.prog t (.agg (u8s D).toArray) = true := by simp [Value.formed, ht, hc, u8s, hl]
  refine ⟨.string (keyBytes ls), ?_⟩
  simp only [keyOf, ht, hk, hf, Bool.and_self, if_true, hm, Value.cells]
  rw [show m + 1 + 1 = m + 2 by rfl, h]; rfl
end Go.Proofs.Ytmlklmhochihbaa
/- Maps in memory that are ranged over: what a look-up tells, what an update, a delete and a clear leave, and what a range hands out. -/
namespace Go.Proofs.Ytmlklmhochihbaa
open Go.RowKit Go.ChangeMaps Go.WideMaps Go.MapKept Go.Maps
section
variable {P : Program} {w w' : World} {b r : Nat} {M L : List (Value × Value)} {t kt et : TypeId}

/-- A map's block: these keys, each with its element; each entry bears a stamp of its own. -/
structure Mq (P : Program) (kt : TypeId) (w : World) (b : Nat) (M : List (Value × Value)) : Prop where
  blk : ∃ es clock, w.heap[b]? = some (.map es clock) ∧ es.toList.map (fun e => (e.key, e.val)) = M ∧ (∀ x ∈ es.toList, x.born < clock) ∧ (es.toList.map (·.born)).Nodup
  key : ∀ p ∈ M, ∃ l, keyOf P kt p.1 = some l
  apart : M.Pairwise (fun p q => p.1 ≠ q.1)
theorem Mq.mp (h : Mq P kt w b M) : Mp P kt w b M := by
  obtain ⟨⟨es, c, h1, h2, -⟩, h3, h4⟩ := h
  exact ⟨⟨es, c, h1, h2⟩, h3, h4⟩
theorem Mq.lt (h : Mq P kt w b M) : b < w.heap.size := h.mp.lt
theorem Mq.but {R : Nat → Prop} (h : Mq P kt w b M) (k : But R w w') (hr : ¬ R b) : Mq P kt w' b M := by
  have hl := h.lt
  obtain ⟨⟨es, c, h1, h2⟩, h3, h4⟩ := h
  exact ⟨⟨es, c, (k.block b hl hr).trans h1, h2⟩, h3, h4⟩
theorem Mq.new (g : Nat) (h : w.heap.size = g) : Mq P kt (w.alloc (.map #[] 0)) g [] := by
  subst h
  exact ⟨⟨#[], 0, heap_alloc_new _ _, rfl, fun x hx => absurd hx (by simp), by simp⟩, fun p hp => absurd hp List.not_mem_nil, .nil⟩
theorem Mq.uniq (h : Mq P kt w b M) {k u v : Value} (hu : (k, u) ∈ M) (hv : (k, v) ∈ M) : u = v := h.mp.uniq hu hv
theorem Mq.look (K : Keyed P kt) (ht : P.underlying t = some (.map kt et)) {z : Value} (hz : (zeroValue et).run P w = .ok z w) (h : Mq P kt w b M) {key : Value} {l : Lit} (hkey : keyOf P kt key = some l) (c : Bool) :
    (∀ v, (key, v) ∈ M → (Instr.lookup t (.map (some b)) key c).run P w = .ok (if c then .tuple #[v, .bool true] else v) w) ∧ ((∀ p ∈ M, p.1 ≠ key) → (Instr.lookup t (.map (some b)) key c).run P w = .ok (if c then .tuple #[z, .bool false] else z) w) := by
  have hu := fun u v => h.uniq (k := key) (u := u) (v := v)
  obtain ⟨⟨es, clock, hb, rfl, -⟩, hk, _⟩ := h
  have hks : ∀ e ∈ es.toList, ∃ l, keyOf P kt e.key = some l := fun e he => hk (e.key, e.val) (List.mem_map.2 ⟨e, he, rfl⟩)
  rcases K.find w hkey es.toList hks with ⟨h1, h2⟩ | ⟨j, e0, h1, h2, h3⟩
  · refine ⟨fun v hv => ?_, fun _ => by simp [Instr.lookup, run_underlying ht, MapKept.run_getObj_map hb, K.check w _ hkey, h1, hz, Result.andThen]⟩
    obtain ⟨e, he, e2⟩ := List.mem_map.1 hv
    exact absurd (Prod.mk.inj e2).1 (h2 e he)
  · have hm0 : e0 ∈ es.toList := List.mem_of_getElem? h2
    have hm : (key, e0.val) ∈ es.toList.map (fun e => (e.key, e.val)) := List.mem_map.2 ⟨e0, hm0, by rw [h3]⟩
    refine ⟨fun v hv => ?_, fun hn => absurd rfl (hn _ hm)⟩
    rw [hu v e0.val hv hm]
    simp [Instr.lookup, run_underlying ht, MapKept.run_getObj_map hb, K.check w _ hkey, h1, Result.andThen]
theorem setB {w : World} {b : Nat} {es : Array MapEntry} {clock : Nat} (hb : w.heap[b]? = some (.map es clock)) (es' : Array MapEntry) (clock' : Nat) : (setBlock w b (.map es' clock')).heap[b]? = some (.map es' clock') ∧ But (· = b) w (setBlock w b (.map es' clock')) := by
  have hlt := (Array.getElem?_eq_some_iff.1 hb).1
  exact ⟨by simp [setBlock, hlt], ⟨rfl, rfl, rfl, by simp [setBlock], fun k _ hk => by simp only [setBlock]; rw [Array.getElem?_setIfInBounds_ne (fun e => hk e.symm)]⟩⟩
/-- A key that was there has another element, all others stay; a new one is behind them. -/
theorem Mq.put (K : Keyed P kt) (ht : P.underlying t = some (.map kt et)) (h : Mq P kt w b M) {key v : Value} {l : Lit} (hkey : keyOf P kt key = some l) :
    ∃ w' M', (Instr.mapUpdate t (.map (some b)) key v).run P w = .ok () w' ∧ Mq P kt w' b M' ∧ But (· = b) w w' ∧ w'.heap.size = w.heap.size ∧ (key, v) ∈ M' ∧ ∀ k u, k ≠ key → ((k, u) ∈ M' ↔ (k, u) ∈ M) := by
  obtain ⟨⟨es, clock, hb, rfl, hbo, hnd⟩, hk, hap⟩ := h
  have hks : ∀ e ∈ es.toList, ∃ l, keyOf P kt e.key = some l := fun e he => hk (e.key, e.val) (List.mem_map.2 ⟨e, he, rfl⟩)
  have hset := setB hb
  have hsz : ∀ o, (setBlock w b o).heap.size = w.heap.size := fun o => by simp [setBlock]
  rcases K.find w hkey es.toList hks with ⟨h1, h2⟩ | ⟨j, e0, h1, h2, h3⟩
  · refine ⟨setBlock w b (.map (es.push ⟨key, v, clock⟩) (clock + 1)), es.toList.map (fun e => (e.key, e.val)) ++ [(key, v)], ?_, ⟨⟨_, _, (hset _ _).1, by simp, ?_, ?_⟩, ?_, ?_⟩, (hset _ _).2, hsz _, by simp, fun k u hne => ?_⟩
    · simp [Instr.mapUpdate, run_underlying ht, MapKept.run_getObj_map hb, K.check w false hkey, h1, MapKept.run_setObj_map _ hb, Result.andThen, setBlock]
    · intro x hx
      rw [Array.toList_push] at hx
      rcases List.mem_append.1 hx with hx | hx
      · have := hbo x hx; omega
      · rw [show x = ⟨key, v, clock⟩ by simpa using hx]; exact Nat.lt_succ_self _
    · rw [Array.toList_push, List.map_append, List.nodup_append]
      refine ⟨hnd, by simp, fun a ha c hc => ?_⟩
      obtain ⟨x, hx, rfl⟩ := List.mem_map.1 ha
      have h5 := hbo x hx
      rw [show c = clock by simpa using hc]
      omega
    · intro p hp
      rcases List.mem_append.1 hp with hp | hp
      · exact hk p hp
      · obtain rfl : p = (key, v) := by simpa using hp
        exact ⟨l, hkey⟩
    · refine List.pairwise_append.2 ⟨hap, List.pairwise_singleton _ _, fun p hp q hq => ?_⟩
      obtain rfl : q = (key, v) := by simpa using hq
      obtain ⟨e, he, rfl⟩ := List.mem_map.1 hp
      exact h2 e he
    · constructor
      · intro h
        rcases List.mem_append.1 h with h | h
        · exact h
        · simp at h; exact absurd h.1 hne
      · exact fun h => List.mem_append_left _ h
  · have hlt2 : j < es.size := by
      have := (List.getElem?_eq_some_iff.1 h2).1
      simpa using this
    have hej : es[j]? = some e0 := by simpa using h2
    have hst := K.stays w hkey
    have hg : es[j] = e0 := by rw [Array.getElem?_eq_getElem hlt2] at hej; exact Option.some.inj hej
    have hmod : (es.modify j fun e => { e with key := key, val := v }).toList = es.toList.set j { e0 with key := key, val := v } := by
      apply List.ext_getElem?
      intro i
      rw [← Array.getElem?_toList.symm, Array.getElem?_modify, List.getElem?_set]
      by_cases hij : j = i
      · subst hij; simp [hlt2, hg]
      · simp [hij]
    have hmap : (es.toList.set j { e0 with key := key, val := v }).map (fun e => (e.key, e.val)) = (es.toList.map (fun e => (e.key, e.val))).set j (key, v) := by rw [List.map_set]
    have hborn : (es.toList.set j { e0 with key := key, val := v }).map (·.born) = es.toList.map (·.born) := by
      rw [List.map_set]
      apply List.ext_getElem?
      intro i
      rw [List.getElem?_set]
      by_cases hij : j = i
      · subst hij; simp [hlt2, hg]
      · simp [hij]
    have hkeys : ((es.toList.map (fun e => (e.key, e.val))).set j (key, v)).map Prod.fst = (es.toList.map (fun e => (e.key, e.val))).map Prod.fst := by
      rw [List.map_set]
      apply List.ext_getElem?
      intro i
      rw [List.getElem?_set]
      by_cases hij : j = i
      · subst hij
        simp [h3, hlt2, hg]
      · simp [hij]
    refine ⟨setBlock w b (.map (es.modify j fun e => { e with key := key, val := v }) clock), (es.toList.map (fun e => (e.key, e.val))).set j (key, v), ?_, ⟨⟨_, _, (hset _ _).1, by rw [hmod, hmap], ?_, by rw [hmod, hborn]; exact hnd⟩, ?_, ?_⟩, (hset _ _).2, hsz _, ?_, fun k u hne => ?_⟩
    · simp [Instr.mapUpdate, run_underlying ht, MapKept.run_getObj_map hb, K.check w false hkey, h1, hej, h3, hst, MapKept.run_setObj_map _ hb, Result.andThen, setBlock]
    · intro x hx
      rw [hmod] at hx
      have h5 : x.born ∈ es.toList.map (·.born) := by rw [← hborn]; exact List.mem_map.2 ⟨x, hx, rfl⟩
      obtain ⟨y, hy, e5⟩ := List.mem_map.1 h5
      rw [← e5]; exact hbo y hy
    · intro p hp
      rcases List.mem_or_eq_of_mem_set hp with hp | rfl
      · exact hk p hp
      · exact ⟨l, hkey⟩
    · have : ((es.toList.map (fun e => (e.key, e.val))).map Prod.fst).Pairwise (· ≠ ·) := List.pairwise_map.2 hap
      rw [← hkeys] at this
      exact List.pairwise_map.1 this
    · exact List.mem_iff_getElem?.2 ⟨j, by rw [List.getElem?_set]; simp [hlt2]⟩
    · constructor
      · intro h
        rcases List.mem_or_eq_of_mem_set h with h | h
        · exact h
        · exact absurd (Prod.mk.inj h).1 hne
      · intro h
        obtain ⟨i, hi⟩ := List.mem_iff_getElem?.1 h
        refine List.mem_iff_getElem?.2 ⟨i, ?_⟩
        rw [List.getElem?_set]
        by_cases hij : j = i
        · subst hij
          simp [hej, h3] at hi
          exact absurd hi.1.symm hne
        · simpa [hij] using hi
/-- A key is taken out. -/
theorem Mq.del (K : Keyed P kt) (ht : P.underlying t = some (.map kt et)) (h : Mq P kt w b M) {key : Value} {l : Lit} (hkey : keyOf P kt key = some l) (ty : TypeId) :
    ∃ w' M', (Builtin.delete_ #[t, kt] ty #[.map (some b), key]).run P w = .ok (.tuple #[]) w' ∧ Mq P kt w' b M' ∧ But (· = b) w w' ∧ w'.heap.size = w.heap.size ∧ ∀ k u, (k, u) ∈ M' ↔ (k, u) ∈ M ∧ k ≠ key := by
  have hap0 := h.apart
  have hkk := h.key
  obtain ⟨⟨es, clock, hb, rfl, hbo, hnd⟩, hk, hap⟩ := h
  have hks : ∀ e ∈ es.toList, ∃ l, keyOf P kt e.key = some l := fun e he => hk (e.key, e.val) (List.mem_map.2 ⟨e, he, rfl⟩)
  have hset := setB hb
  have hsz : ∀ o, (setBlock w b o).heap.size = w.heap.size := fun o => by simp [setBlock]
  rcases K.find w hkey es.toList hks with ⟨h1, h2⟩ | ⟨j, e0, h1, h2, h3⟩
  · refine ⟨setBlock w b (.map es clock), _, ?_, ⟨⟨es, clock, (hset _ _).1, rfl, hbo, hnd⟩, hk, hap⟩, (hset _ _).2, hsz _, fun k u => ⟨fun hm => ⟨hm, ?_⟩, fun hm => hm.1⟩⟩
    · simp [Builtin.delete_, run_underlying ht, MapKept.run_getObj_map hb, K.check w _ hkey, h1, MapKept.run_setObj_map _ hb, Result.andThen, setBlock]
    · obtain ⟨e, he, e2⟩ := List.mem_map.1 hm
      rw [← (Prod.mk.inj e2).1]; exact h2 e he
  · have hjs : j < es.size := by
      have := (List.getElem?_eq_some_iff.1 h2).1
      simpa using this
    have hsub : (es.eraseIdxIfInBounds j).toList = es.toList.eraseIdx j := by
      unfold Array.eraseIdxIfInBounds
      rw [dif_pos hjs]
      simp
    have hsl : (es.toList.eraseIdx j).Sublist es.toList := List.eraseIdx_sublist _ _
    refine ⟨setBlock w b (.map (es.eraseIdxIfInBounds j) clock), (es.toList.eraseIdx j).map (fun e => (e.key, e.val)), ?_, ⟨⟨_, _, (hset _ _).1, by rw [hsub], ?_, ?_⟩, ?_, ?_⟩, (hset _ _).2, hsz _, fun k u => ?_⟩
    · simp [Builtin.delete_, run_underlying ht, MapKept.run_getObj_map hb, K.check w _ hkey, h1, MapKept.run_setObj_map _ hb, Result.andThen, setBlock]
    · intro x hx; rw [hsub] at hx; exact hbo x (hsl.subset hx)
    · rw [hsub]; exact hnd.sublist (hsl.map _)
    · intro p hp; exact hk p ((hsl.map _).subset hp)
    · exact hap.sublist (hsl.map _)
    · have hap' := hap0
      constructor
      · intro hm
        have h4 := (hsl.map (fun e : MapEntry => (e.key, e.val))).subset hm
        refine ⟨h4, fun e4 => ?_⟩
        obtain ⟨e, he, e2⟩ := List.mem_map.1 hm
        rw [List.mem_eraseIdx_iff_getElem?] at he
        obtain ⟨i, hne, hi⟩ := he
        have h5 : (es.toList.map (fun e => (e.key, e.val)))[i]? = some (e.key, e.val) := by simp only [List.getElem?_map, hi, Option.map_some]
        have h6 : (es.toList.map (fun e => (e.key, e.val)))[j]? = some (e0.key, e0.val) := by simp only [List.getElem?_map, h2, Option.map_some]
        obtain ⟨h7, h7'⟩ := List.getElem?_eq_some_iff.1 h5
        obtain ⟨h8, h8'⟩ := List.getElem?_eq_some_iff.1 h6
        have hek : e.key = e0.key := by rw [h3, ← e4]; exact (Prod.mk.inj e2).1
        rcases Nat.lt_or_ge i j with hij | hij
        · have := List.pairwise_iff_getElem.1 hap i j h7 h8 hij
          rw [h7', h8'] at this
          exact this hek
        · have := List.pairwise_iff_getElem.1 hap j i h8 h7 (by omega)
          rw [h7', h8'] at this
          exact this hek.symm
      · rintro ⟨hm, hne⟩
        obtain ⟨e, he, e2⟩ := List.mem_map.1 hm
        refine List.mem_map.2 ⟨e, ?_, e2⟩
        rw [List.mem_eraseIdx_iff_getElem?]
        obtain ⟨i, hi⟩ := List.getElem?_of_mem he
        refine ⟨i, fun e1 => hne ?_, hi⟩
        rw [e1, h2] at hi
        cases hi
        rw [← h3]; exact (Prod.mk.inj e2).1.symm
/-- All is taken out. -/
theorem Mq.clear {d : TypeDesc} (ht : P.underlying t = some d) (h : Mq P kt w b M) (ty : TypeId) :
    ∃ w', (Builtin.clear_ #[t] ty #[.map (some b)]).run P w = .ok (.tuple #[]) w' ∧ Mq P kt w' b [] ∧ But (· = b) w w' ∧ w'.heap.size = w.heap.size := by
  obtain ⟨⟨es, clock, hb, rfl, hbo, hnd⟩, hk, hap⟩ := h
  have hset := setB hb
  refine ⟨setBlock w b (.map #[] clock), ?_, ⟨⟨_, _, (hset _ _).1, rfl, fun x hx => absurd hx (by simp), by simp⟩, fun p hp => absurd hp List.not_mem_nil, .nil⟩, (hset _ _).2, by simp [setBlock]⟩
  simp [Builtin.clear_, run_underlying ht, MapKept.run_getObj_map hb, MapKept.run_setObj_map _ hb, Result.andThen, setBlock]
/-- An iterator in block r over the map in block b: these pairs are left. -/
structure Rg (w : World) (r b : Nat) (M L : List (Value × Value)) : Prop where
  ex : ∃ es clock seen c0, w.heap[r]? = some (.mapIter (some b) clock seen c0) ∧ clock ≤ c0 ∧ w.heap[b]? = some (.map es clock) ∧ es.toList.map (fun e => (e.key, e.val)) = M ∧ (∀ x ∈ es.toList, x.born < clock) ∧ (es.toList.map (·.born)).Nodup ∧ (leftOf es seen).toList.map (fun e => (e.key, e.val)) = L
theorem Rg.ne (h : Rg w r b M L) : r ≠ b := by
  obtain ⟨es, clock, seen, c0, h1, _, h2, _⟩ := h.ex
  intro e; rw [e, h2] at h1; cases h1
theorem Rg.lt (h : Rg w r b M L) : r < w.heap.size ∧ b < w.heap.size := by
  obtain ⟨es, clock, seen, c0, h1, _, h2, _⟩ := h.ex
  exact ⟨(Array.getElem?_eq_some_iff.1 h1).1, (Array.getElem?_eq_some_iff.1 h2).1⟩
theorem Rg.but {R : Nat → Prop} (h : Rg w r b M L) (k : But R w w') (h1 : ¬ R r) (h2 : ¬ R b) : Rg w' r b M L := by
  have hl := h.lt
  obtain ⟨es, clock, seen, c0, h3, h4, h5, h6⟩ := h.ex
  exact ⟨es, clock, seen, c0, (k.block r hl.1 h1).trans h3, h4, (k.block b hl.2 h2).trans h5, h6⟩
theorem Mq.range {et : TypeId} (ht : P.underlying t = some (.map kt et)) (h : Mq P kt w b M) : ∃ w', (Instr.range t (.map (some b))).run P w = .ok (.pointer (some ⟨w.heap.size, 0, none⟩)) w' ∧ But (fun _ => False) w w' ∧ w'.heap.size = w.heap.size + 1 ∧ Rg w' w.heap.size b M M := by
  have hl := h.lt
  obtain ⟨⟨es, clock, hb, rfl, hbo, hnd⟩, hk, hap⟩ := h
  refine ⟨w.alloc (.mapIter (some b) clock #[] clock), run_range_map w t kt et b es clock ht hb, (But.refl _ w).alloc _, by simp, es, clock, #[], clock, heap_alloc_new _ _, Nat.le_refl _, by rw [heap_alloc_old w _ hl, hb], rfl, hbo, hnd, ?_⟩
  have : leftOf es #[] = es := by
    unfold leftOf
    exact Array.filter_eq_self.2 (fun x hx => by simp)
  rw [this]
theorem perm_filter {α : Type} (f : α → Nat) (e : α) : ∀ (l : List α), (l.map f).Nodup → e ∈ l → l.Perm (e :: l.filter fun x => !(f x == f e))
  | [], _, h => absurd h List.not_mem_nil
  | x :: l, hn, h => by
    have hn' : f x ∉ l.map f ∧ (l.map f).Nodup := List.nodup_cons.1 hn
    rcases List.mem_cons.1 h with rfl | h
    · have : (l.filter fun y => !(f y == f e)) = l := List.filter_eq_self.2 (fun y hy => by
        have : f y ≠ f e := fun h2 => hn'.1 (by rw [← h2]; exact List.mem_map.2 ⟨y, hy, rfl⟩)
        simpa using this)
      simp [this]
    · have hx : (!(f x == f e)) = true := by
        have : f x ≠ f e := fun h2 => hn'.1 (by rw [h2]; exact List.mem_map.2 ⟨e, h, rfl⟩)
        simpa using this
      rw [List.filter_cons, if_pos hx]
      exact ((perm_filter f e l hn'.2 h).cons x).trans (List.Perm.swap _ _ _)
/-- The next one, whichever it is. -/
theorem Rg.next (h : Rg w r b M L) (ty : TypeId) :
    (L = [] ∧ (Instr.next (.pointer (some ⟨r, 0, none⟩)) false ty).run P w = .ok (.tuple #[.bool false]) w) ∨
    ∃ p L' w', p ∈ M ∧ L.Perm (p :: L') ∧ (Instr.next (.pointer (some ⟨r, 0, none⟩)) false ty).run P w = .ok (.tuple #[.bool true, p.1, p.2]) w' ∧ But (· = r) w w' ∧ w'.heap.size = w.heap.size ∧ Rg w' r b M L' ∧ (Instr.entry (.pointer (some ⟨r, 0, none⟩))).run P w' = .ok (.tuple #[p.1, p.2]) w' := by
  have hne := h.ne
  have hl := h.lt
  obtain ⟨es, clock, seen, c0, h1, h2, h3, rfl, h4, h5, rfl⟩ := h.ex
  rcases run_next_at w ty r b clock c0 seen es clock h1 h3 h4 h2 with ⟨e0, hr⟩ | ⟨e, he, w1, hw1, hr⟩
  · have : leftOf es seen = #[] := Array.eq_empty_of_size_eq_zero e0
    exact .inl ⟨by rw [this]; rfl, hr⟩
  · have hm := mem_left he
    have hq : w1.heap = w.heap ∧ But (fun _ => False) w w1 := by
      rcases hw1 with rfl | rfl
      · exact ⟨rfl, But.refl _ _⟩
      · exact ⟨rfl, (But.refl _ w).drew⟩
    have hr1 : (setBlock w1 r (.mapIter (some b) clock (seen.push e.born) clock)).heap[r]? = some (.mapIter (some b) clock (seen.push e.born) clock) := by
      simp [setBlock, hq.1, hl.1]
    have hb1 : (setBlock w1 r (.mapIter (some b) clock (seen.push e.born) clock)).heap[b]? = some (.map es clock) := by
      simp only [setBlock]
      rw [Array.getElem?_setIfInBounds_ne hne, hq.1]; exact h3
    refine .inr ⟨(e.key, e.val), (leftOf es (seen.push e.born)).toList.map (fun e => (e.key, e.val)), _, List.mem_map.2 ⟨e, hm.1, rfl⟩, ?_, hr, ⟨by simp [setBlock]; exact hq.2.os, by simp [setBlock]; exact hq.2.tape, by simp [setBlock]; exact hq.2.output, by simp [setBlock, hq.1], fun k _ hk => by
      simp only [setBlock]
      rw [Array.getElem?_setIfInBounds_ne (fun e => hk e.symm), hq.1]⟩, by simp [setBlock, hq.1], ⟨es, clock, seen.push e.born, clock, hr1, Nat.le_refl _, hb1, rfl, h4, h5, rfl⟩, run_entry_at _ r b clock seen es clock e hr1 hb1 hm.1 h5⟩
    have hn2 : ((leftOf es seen).toList.map (·.born)).Nodup := by
      unfold leftOf
      rw [Array.toList_filter]
      exact h5.sublist (List.filter_sublist.map _)
    have h6 := perm_filter (fun e : MapEntry => e.born) e (leftOf es seen).toList hn2 he
    have h7 : ((leftOf es seen).toList.filter fun x => !(x.born == e.born)) = (leftOf es (seen.push e.born)).toList := by
      unfold leftOf
      rw [Array.toList_filter, Array.toList_filter, List.filter_filter]
      apply List.filter_congr
      intro x hx
      rw [contains_push]
      cases seen.contains x.born <;> simp
    rw [h7] at h6
    exact h6.map _
end
end Go.Proofs.Ytmlklmhochihbaa
/- A region that draws its order, by what holds behind each part of it: no order is walked. -/
namespace Go.Proofs.Ytmlklmhochihbaa
open Go.RowKit

section
variable {P : Program} {md : Region.Mode} {ops : Array Oper} {Q : Exit → Act → World → Prop}

theorem ready_open {l : List Bool} {i : Nat} (h : i ∈ Region.ready md ops l.toArray) : i < ops.size ∧ l.getD i true = false := by
  simp only [Region.ready, List.mem_filter, List.mem_range, Bool.and_eq_true, Bool.not_eq_true'] at h
  refine ⟨h.1, ?_⟩
  have := h.2.1
  simpa using this
theorem ready_dep {l : List Bool} {i : Nat} {o : Oper} (h : i ∈ Region.ready md ops l.toArray) (ho : ops[i]? = some o) : o.after.all (fun e => !Region.binds md e || l.getD e.on false) = true := by
  simp only [Region.ready, List.mem_filter, List.mem_range, Bool.and_eq_true, ho, Option.map_some, Option.getD_some] at h
  have := h.2.2
  simpa using this
theorem ready_none {l : List Bool} (hl : l.length = ops.size) (h : l.count false = 0) : Region.ready md ops l.toArray = [] := by
  cases hr : Region.ready md ops l.toArray with
  | nil => rfl
  | cons x xs =>
    have hx := ready_open (md := md) (ops := ops) (l := l) (i := x) (by rw [hr]; exact List.mem_cons_self)
    have hlt : x < l.length := by rw [hl]; exact hx.1
    have hm : false ∈ l := by
      have e : l.getD x true = l[x] := by simp [List.getD, hlt]
      rw [← hx.2, e]; exact List.getElem_mem hlt
    exact absurd h (Nat.pos_iff_ne_zero.1 (List.count_pos_iff.2 hm))
theorem count_listed {l : List Bool} {i : Nat} (hi : i < l.length) (h : l.getD i true = false) : (l.set i true).count false + 1 = l.count false := by
  have e : l[i] = false := by simpa [List.getD, hi] using h
  have hm : 0 < l.count false := List.count_pos_iff.2 (by rw [← e]; exact List.getElem_mem hi)
  rw [List.count_set hi]
  simp [e]; omega

theorem wpAny_inv (J : List Bool → Act → World → Prop)
    (step : ∀ l a w i o, J l a w → l.length = ops.size → i ∈ Region.ready md ops l.toArray → ops[i]? = some o → o.wp P a w (J (l.set i true)) Q)
    (hg : ops.all (fun o => o.guard.isNone) = true)
    (fin : ∀ l a w, J l a w → l.length = ops.size → Region.ready md ops l.toArray = [] → Q .normal a w) :
    ∀ (fuel : Nat) (l : List Bool) (a : Act) (w : World), l.length = ops.size → l.count false ≤ fuel → J l a w → wpAny P md ops Q fuel l.toArray a w := by
  intro fuel
  induction fuel with
  | zero =>
    intro l a w hl hc hj
    have hr := ready_none (md := md) hl (by omega)
    exact ⟨hr, fin l a w hj hl hr⟩
  | succ fuel ih =>
    intro l a w hl hc hj
    refine ⟨fun hr => fin l a w hj hl hr, fun i hi => ?_⟩
    obtain ⟨hlt, hf⟩ := ready_open hi
    have hlt' : i < l.length := by omega
    have ho : ops[i]? = some ops[i] := by simp [hlt]
    have hst := step l a w i _ hj hl hi ho
    have e : l.toArray.setIfInBounds i true = (l.set i true).toArray := by simp
    rw [e]
    have hw : Region.wanted ops[i] (yielded ops a.tmps) = true := by
      have h' : (ops[i]).guard.isNone = true := by
        rw [Array.all_eq_true] at hg
        exact hg i hlt
      have h2 : (ops[i]).guard = none := by simpa using h'
      simp [Region.wanted, h2]
    unfold wpOp
    rw [ho]
    simp only [hw, if_true]
    refine .inl (Oper.wp_mono (fun a' w' hj' => ih _ a' w' (by simp [hl]) ?_ hj') hst)
    have := count_listed hlt' hf
    omega

/-- Each operation waits only for ones ahead of it. -/
def ahead (ops : Array Oper) : Bool := (List.range ops.size).all fun i => ((ops[i]?).map fun o => o.after.all fun e => !Region.binds .any e || decide (e.on < i)).getD true
theorem ready_all {l : List Bool} (ha : ahead ops = true) (hl : l.length = ops.size) (hr : Region.ready .any ops l.toArray = []) : l = List.replicate ops.size true := by
  have key : ∀ n i, i ≤ n → i < ops.size → l.getD i false = true := by
    intro n
    induction n with
    | zero =>
      intro i hi hlt
      obtain rfl : i = 0 := by omega
      cases h : l.getD 0 false with
      | true => rfl
      | false =>
        exfalso
        have hm : 0 ∈ Region.ready .any ops l.toArray := by
          simp only [Region.ready, List.mem_filter, List.mem_range, Bool.and_eq_true]
          refine ⟨hlt, ?_, ?_⟩
          · have : l[0]? = some l[0] := List.getElem?_eq_getElem (by omega)
            simp [List.getD, this] at h
            simp [this, h]
          · have ho : ops[0]? = some ops[0] := by simp [hlt]
            simp only [ho, Option.map_some, Option.getD_some, Array.all_eq_true]
            intro j hj
            have h2 := (List.all_eq_true.1 ha) 0 (by simpa using hlt)
            simp only [ho, Option.map_some, Option.getD_some, Array.all_eq_true] at h2
            have := h2 j hj
            simp at this
            simp [this]
        rw [hr] at hm; cases hm
    | succ n ih =>
      intro i hi hlt
      cases h : l.getD i false with
      | true => rfl
      | false =>
        exfalso
        have hm : i ∈ Region.ready .any ops l.toArray := by
          simp only [Region.ready, List.mem_filter, List.mem_range, Bool.and_eq_true]
          refine ⟨hlt, ?_, ?_⟩
          · have : l[i]? = some l[i] := List.getElem?_eq_getElem (by omega)
            simp [List.getD, this] at h
            simp [this, h]
          · have ho : ops[i]? = some ops[i] := by simp [hlt]
            simp only [ho, Option.map_some, Option.getD_some, Array.all_eq_true]
            intro j hj
            have h2 := (List.all_eq_true.1 ha) i (by simpa using hlt)
            simp only [ho, Option.map_some, Option.getD_some, Array.all_eq_true] at h2
            have h3' := h2 j hj
            rw [Bool.or_eq_true] at h3' ⊢
            rcases h3' with h3' | h3'
            · exact .inl h3'
            have h3 : ((ops[i]).after[j]).on < i := by simpa using h3'
            have h4 := ih _ (show ((ops[i]).after[j]).on ≤ n by omega) (by omega)
            right
            simpa using h4
        rw [hr] at hm; cases hm
  apply List.ext_getElem (by simpa using hl)
  intro i h1 h2
  have h3 := key i i (Nat.le_refl _) (by omega)
  simpa [List.getD, h1] using h3

/-- A region that draws: J holds at first and goes on by each operation that is ready; behind all of them it gives the post. -/
theorem region_inv {id : Nat} {a : Act} {w : World} (hm : P.follows .mixedOrders = true) (hg : ops.all (fun o => o.guard.isNone) = true) (ha : ahead ops = true) (J : List Bool → Act → World → Prop)
    (h0 : J (List.replicate ops.size false) a w.drew)
    (step : ∀ l a w i o, J l a w → l.getD i true = false → o.after.all (fun e => !Region.binds .any e || l.getD e.on false) = true → i < ops.size → ops[i]? = some o → o.wp P a w (J (l.set i true)) Q)
    (fin : ∀ a w, J (List.replicate ops.size true) a w → Q .normal a w) : (Code.region id ops true).wp P Q a w := by
  refine wp_region_any hm ?_
  have e : Array.replicate ops.size false = (List.replicate ops.size false).toArray := by simp
  rw [e]
  exact wpAny_inv J (fun l a w i o hj _ hi ho => step l a w i o hj (ready_open hi).2 (ready_dep hi ho) (ready_open hi).1 ho) hg (fun l a w hj hl hr => fin a w (by rw [← ready_all ha hl hr]; exact hj)) ops.size _ a _ (by simp) (by simp) h0

section
variable {o : Oper} {a : Act} {w w' : World} {K : Act → World → Prop}
theorem op_value (v : Value) (hrun : (execOp a.eval o).run P w = .ok (.value v) w') (h : K (a.put o.dst v) w') : o.wp P a w K Q := by
  unfold Oper.wp; rw [hrun]; exact h
theorem op_skip (hrun : (execOp a.eval o).run P w = .ok .skip w') (h : K (a.put o.dst undef) w') : o.wp P a w K Q := by
  unfold Oper.wp; rw [hrun]; exact h
theorem op_enter (f : FuncId) (args : Array Value) (hrun : (execOp a.eval o).run P w = .ok (.enter f args) w) (h : Calls P f args w fun e w'' => ∃ v, e = .returned v ∧ K (a.put o.dst v) w'') : o.wp P a w K Q := by
  unfold Oper.wp; rw [hrun, Oper.upon_enter]
  refine h.mono fun e w'' hh => ?_
  obtain ⟨v, rfl, hk⟩ := hh
  exact hk
/-- A variable is made. -/
theorem op_alloc (T : TypeId) (Z : Array Value) (ho : o.op = .alloc T) (hz : (zeroValue T).run P w = .ok (.agg Z) w)
    (h : K (a.put o.dst (.pointer (some ⟨w.heap.size, 0, none⟩))) (w.alloc (.cells Z T))) : o.wp P a w K Q := by
  refine op_value (.pointer (some ⟨w.heap.size, 0, none⟩)) ?_ h
  simp [execOp, ho, go_sem, hz]
/-- A function of the program is called. -/
theorem op_call (f : FuncId) (A : List Operand) (T : Array TypeId) (args : Array Value) (ho : o.op = .call { callee := .value (.func f), args := A.toArray, argTypes := T }) (hA : (A.map a.eval).toArray = args) (hf : (callFunc f args).run P w = .ok (.enter f args) w)
    (h : Calls P f args w fun e w'' => ∃ v, e = .returned v ∧ K (a.put o.dst v) w'') : o.wp P a w K Q := by
  refine op_enter f args ?_ h
  subst hA
  simp [execOp, ho, go_sem, Act.eval, hf]
/-- A slice of all of a variable, or of a slice. -/
theorem op_slice (T : TypeId) (x : Operand) (u v : Value) (ho : o.op = .slice T x none none none) (hx : a.eval x = u) (hr : (Instr.sliceAt T u none none none).run P w = .ok v w)
    (h : K (a.put o.dst v) w) : o.wp P a w K Q := by
  refine op_value v ?_ h
  unfold execOp
  simp only [ho, Option.map_none, hx]
  simp only [Sem.run_bind, hr, Result.andThen_ok, Sem.run_pure]
end
end
end Go.Proofs.Ytmlklmhochihbaa
/- A region that draws its order, whose operations only read but for the last one, which waits for all the others. -/
namespace Go.Proofs.Ytmlklmhochihbaa
open Go.RowKit

section
variable {P : Program} {l : List Oper} {o : Oper} {Q : Exit → Act → World → Prop}

/-- x waits for the operation j. -/
def waitsFor (x : Oper) (j : Nat) : Bool := x.after.any fun e => Region.binds .any e && e.on == j
/-- Each operation is waited for by a later one, or by the last one. -/
def lastFull (l : List Oper) (o : Oper) : Bool :=
  (List.range l.length).all fun j => waitsFor o j || (List.range l.length).any fun i => decide (j < i) && ((l[i]?).map fun x => waitsFor x j).getD false
def Closed (l : List Oper) (s : List Bool) : Prop := ∀ i x, l[i]? = some x → s.getD i false = true → ∀ j, waitsFor x j = true → s.getD j false = true

theorem dep_done {x : Oper} {s : List Bool} (h : x.after.all (fun e => !Region.binds .any e || s.getD e.on false) = true) (j : Nat) (hj : waitsFor x j = true) : s.getD j false = true := by
  unfold waitsFor at hj
  rw [Array.any_eq_true] at hj
  obtain ⟨k, hk, hk2⟩ := hj
  simp only [Bool.and_eq_true, beq_iff_eq] at hk2
  rw [Array.all_eq_true] at h
  have := h k hk
  rw [hk2.1, hk2.2] at this
  simpa using this
theorem all_done {s : List Bool} (hf : lastFull l o = true) (hc : Closed l s) (ho : ∀ j, j < l.length → waitsFor o j = true → s.getD j false = true) : ∀ n j, l.length - j ≤ n → j < l.length → s.getD j false = true := by
  intro n
  induction n with
  | zero => intro j h1 h2; omega
  | succ n ih =>
    intro j h1 h2
    have h := List.all_eq_true.1 hf j (by simpa using h2)
    rw [Bool.or_eq_true] at h
    rcases h with h | h
    · exact ho j h2 h
    · obtain ⟨i, hi, h3⟩ := List.any_eq_true.1 h
      simp only [Bool.and_eq_true, decide_eq_true_eq] at h3
      have hil : i < l.length := by simpa using hi
      have hx : l[i]? = some l[i] := List.getElem?_eq_getElem hil
      rw [hx] at h3
      exact hc i _ hx (ih i (by omega) hil) j (by simpa using h3.2)
theorem getD_snoc {s : List Bool} {i : Nat} {d : Bool} (hi : i < s.length) : (s ++ [false]).getD i d = s.getD i d := by
  simp [List.getD, List.getElem?_append_left hi]

theorem last_inv {C : World → Prop} {Qq : Act → Prop} (hg : l.all (fun x => x.guard.isNone) = true) (hgo : o.guard = none) (ha : ahead (l ++ [o]).toArray = true) (hf : lastFull l o = true)
    (hQ : ∀ a w, C w → Qq a → wpList P (l ++ [o]).toArray Q [o] a w) :
    ∀ (fuel : Nat) (s : List Bool) (a : Act) (w : World), s.length = l.length → s.count false ≤ fuel → Closed l s → C w → wpAnyQ P .any l.toArray C Qq fuel s.toArray a → wpAny P .any (l ++ [o]).toArray Q (fuel + 1) (s ++ [false]).toArray a w := by
  have hlast : ∀ (fuel : Nat) (s : List Bool) (a : Act) (w : World), s.length = l.length → (∀ j, j < l.length → s.getD j false = true) → C w → Qq a → wpOp P (l ++ [o]).toArray Q l.length (wpAny P .any (l ++ [o]).toArray Q fuel ((s ++ [false]).toArray.setIfInBounds l.length true)) a w := by
    intro fuel s a w hs hall hC hq
    unfold wpOp
    have e : (l ++ [o]).toArray[l.length]? = some o := by simp
    rw [e]
    simp only [Region.wanted, hgo, if_true]
    have hq2 := hQ a w hC hq
    unfold wpList at hq2
    simp only [Region.wanted, hgo, if_true] at hq2
    refine hq2.imp (Oper.wp_mono (fun a' w' h' => ?_)) id
    have e2 : (s ++ [false]).toArray.setIfInBounds l.length true = (s ++ [true]).toArray := by simp [← hs]
    rw [e2]
    have hn : Region.ready .any (l ++ [o]).toArray (s ++ [true]).toArray = [] := by
      refine ready_none (by simp [hs]) ?_
      rw [List.count_eq_zero]
      intro hm
      obtain ⟨k, hk, hk2⟩ := List.getElem_of_mem hm
      by_cases hkl : k < s.length
      · have h1 := hall k (by omega)
        rw [List.getElem_append_left hkl] at hk2
        simp [List.getD, hkl, hk2] at h1
      · have : k = s.length := by simp at hk; omega
        subst this
        simp at hk2
    cases fuel with
    | zero => exact ⟨hn, h'⟩
    | succ n => exact ⟨fun _ => h', fun i hi => by rw [hn] at hi; cases hi⟩
  intro fuel
  induction fuel with
  | zero =>
    intro s a w hs hc hcl hC h
    refine ⟨fun hr => ?_, fun i hi => ?_⟩
    · have := ready_all ha (by simp [hs]) hr
      have e := congrArg (fun t => t.getD s.length true) this
      simp [List.getD, hs] at e
    · obtain ⟨hlt, hfalse⟩ := ready_open hi
      have hi2 : i = l.length := by
        by_cases hil : i < l.length
        · exfalso
          rw [getD_snoc (by omega)] at hfalse
          have hm : false ∈ s := by
            have e : s[i]'(by omega) = false := by simpa [List.getD, show i < s.length by omega] using hfalse
            rw [← e]; exact List.getElem_mem _
          have := List.count_pos_iff.2 hm
          omega
        · simp at hlt; omega
      subst hi2
      refine hlast _ s a w hs (fun j hj => ?_) hC h.2
      cases hb : s.getD j false with
      | true => rfl
      | false =>
        exfalso
        have hm : false ∈ s := by
          have e : s[j]'(by omega) = false := by simpa [List.getD, show j < s.length by omega] using hb
          rw [← e]; exact List.getElem_mem _
        have := List.count_pos_iff.2 hm
        omega
  | succ fuel ih =>
    intro s a w hs hc hcl hC h
    refine ⟨fun hr => ?_, fun i hi => ?_⟩
    · have := ready_all ha (by simp [hs]) hr
      have e := congrArg (fun t => t.getD s.length true) this
      simp [List.getD, hs] at e
    · obtain ⟨hlt, hfalse⟩ := ready_open hi
      by_cases hil : i < l.length
      · have hx : l[i]? = some l[i] := List.getElem?_eq_getElem hil
        have hox : (l ++ [o]).toArray[i]? = some l[i] := by simp [List.getElem?_append_left hil, hil]
        have hdep := ready_dep hi hox
        have hgx : (l[i]).guard = none := by
          have := List.all_eq_true.1 hg l[i] (List.getElem_mem hil)
          simpa using this
        have hdep2 : (l[i]).after.all (fun e => !Region.binds .any e || s.getD e.on false) = true := by
          rw [Array.all_eq_true] at hdep ⊢
          intro k hk
          have h1 := hdep k hk
          have h2 := List.all_eq_true.1 ha i (by simp; omega)
          rw [hox] at h2
          simp only [Option.map_some, Option.getD_some, Array.all_eq_true] at h2
          have h3 := h2 k hk
          rw [Bool.or_eq_true] at h3
          rcases h3 with h3 | h3
          · rw [h3]; rfl
          · have h4 : ((l[i]).after[k]).on < i := by simpa using h3
            rw [getD_snoc (by omega)] at h1
            exact h1
        rw [getD_snoc (by omega)] at hfalse
        have hrd : i ∈ Region.ready .any l.toArray s.toArray := by
          simp only [Region.ready, List.mem_filter, List.mem_range, Bool.and_eq_true, Bool.not_eq_true']
          refine ⟨by simpa using hil, by simpa using hfalse, ?_⟩
          have : l.toArray[i]? = some l[i] := by simp [hil]
          rw [this]
          simpa using hdep2
        have hq := h.2 i hrd
        unfold qOp at hq
        have : l.toArray[i]? = some l[i] := by simp [hil]
        rw [this] at hq
        simp only [Region.wanted, hgx, if_true] at hq
        unfold wpOp
        rw [hox]
        simp only [Region.wanted, hgx, if_true]
        refine .inl (Oper.wp_of_quiet hC (fun a' w' hC' hk => ?_) hq)
        have e1 : s.toArray.setIfInBounds i true = (s.set i true).toArray := by simp
        have e2 : (s ++ [false]).toArray.setIfInBounds i true = (s.set i true ++ [false]).toArray := by simp [List.set_append_left _ _ (show i < s.length by omega)]
        rw [e2]
        rw [e1] at hk
        refine ih _ a' w' (by simp [hs]) (by have := count_listed (l := s) (i := i) (by omega) hfalse; omega) ?_ hC' hk
        intro k x hkx hk1 j hj
        have hset : ∀ j, s.getD j false = true → (s.set i true).getD j false = true := by
          intro j hj
          by_cases hji : j = i
          · subst hji; simp [List.getD, show j < s.length by omega]
          · simp only [List.getD] at hj ⊢
            rw [List.getElem?_set_ne (fun e => hji e.symm)]; exact hj
        by_cases hki : k = i
        · subst hki
          have : x = l[k] := Option.some.inj (hkx.symm.trans hx)
          subst this
          exact hset j (dep_done hdep2 j hj)
        · refine hset j (hcl k x hkx ?_ j hj)
          simp only [List.getD] at hk1 ⊢
          rwa [List.getElem?_set_ne (fun e => hki e.symm)] at hk1
      · have hi2 : i = l.length := by simp at hlt; omega
        subst hi2
        have hox : (l ++ [o]).toArray[l.length]? = some o := by simp
        have hdep := ready_dep hi hox
        have hall : ∀ j, j < l.length → s.getD j false = true := fun j hj => all_done hf hcl (fun j hj hw => by
          have := dep_done hdep j hw
          rwa [getD_snoc (by omega)] at this) (l.length - j) j (Nat.le_refl _) hj
        have hn : Region.ready .any l.toArray s.toArray = [] := by
          refine ready_none (by simp [hs]) ?_
          rw [List.count_eq_zero]
          intro hm
          obtain ⟨k, hk, hk2⟩ := List.getElem_of_mem hm
          have h1 := hall k (by omega)
          simp [List.getD, hk, hk2] at h1
        exact hlast _ s a w hs hall hC (h.1 hn)

/-- One walk of the text's order serves: all operations but the last one only read. -/
theorem region_ends {id : Nat} {a : Act} {w : World} (hm : P.follows .mixedOrders = true) (hB : Region.lexB .any l.toArray = true) (hg : l.all (fun x => x.guard.isNone) = true) (hgo : o.guard = none) (ha : ahead (l ++ [o]).toArray = true) (hf : lastFull l o = true)
    (h : wpQuiet P l.toArray (fun w' => ∃ n, w' = w.drewN n) (fun a' => ∀ w', (∃ n, w' = w.drewN n) → wpList P (l ++ [o]).toArray Q [o] a' w') l a) : (Code.region id (l ++ [o]).toArray true).wp P Q a w := by
  simp only [Region.lexB, Bool.and_eq_true] at hB
  refine wp_region_any hm ?_
  have hq := wpAnyQ_lex (C := fun w' => ∃ n, w' = w.drewN n) (md := .any) hB.1 l 0 (Array.replicate l.length false) a (by simp) (by simpa using hB.2) h
  have e : Array.replicate (l ++ [o]).toArray.size false = (List.replicate l.length false ++ [false]).toArray := by
    rw [← List.replicate_succ']; simp
  rw [e]
  have e2 : (l ++ [o]).toArray.size = l.length + 1 := by simp
  rw [e2]
  refine last_inv (C := fun w' => ∃ n, w' = w.drewN n) (Qq := fun a' => ∀ w', (∃ n, w' = w.drewN n) → wpList P (l ++ [o]).toArray Q [o] a' w') hg hgo ha hf (fun a w hC h => h w hC) l.length (List.replicate l.length false) a _ (by simp) (by simp) ?_ ⟨1, rfl⟩ (by simpa using hq)
  intro i x _ h1
  simp only [List.getD, List.getElem?_replicate] at h1
  split at h1 <;> cases h1
theorem wpQuiet_mono {ops : Array Oper} {C : World → Prop} {q q' : Act → Prop} (h : ∀ a, q a → q' a) : ∀ (l : List Oper) (a : Act), wpQuiet P ops C q l a → wpQuiet P ops C q' l a
  | [], a, hh => h a hh
  | x :: l, a, hh => by
    unfold wpQuiet at hh ⊢
    split
    · rename_i hw
      simp only [hw, if_true] at hh
      exact Oper.quiet_mono (fun a' => wpQuiet_mono h l a') hh
    · rename_i hw
      simp only [hw] at hh
      exact wpQuiet_mono h l _ hh
/-- The same, the last operation by itself. -/
theorem region_last {id : Nat} {a : Act} {w : World} (hm : P.follows .mixedOrders = true) (hB : Region.lexB .any l.toArray = true) (hg : l.all (fun x => x.guard.isNone) = true) (hgo : o.guard = none) (ha : ahead (l ++ [o]).toArray = true) (hf : lastFull l o = true)
    (h : wpQuiet P l.toArray (fun w' => ∃ n, w' = w.drewN n) (fun a' => ∀ w', (∃ n, w' = w.drewN n) → o.wp P a' w' (fun a w => Q .normal a w) Q) l a) : (Code.region id (l ++ [o]).toArray true).wp P Q a w := by
  refine region_ends hm hB hg hgo ha hf (wpQuiet_mono (fun a' h w' hw => ?_) l a h)
  unfold wpList
  simp only [Region.wanted, hgo, if_true]
  exact .inl (h w' hw)
end
end Go.Proofs.Ytmlklmhochihbaa
/- A region that draws its order: operations that only read, each with its value, and a few that turn memory, told by what holds behind each of them. -/
namespace Go.Proofs.Ytmlklmhochihbaa
open Go.RowKit

section
variable {P : Program} {ops : Array Oper} {Q : Exit → Act → World → Prop}

def slotAt (ops : Array Oper) (j : Nat) : Option Tmp := (ops[j]?).bind (·.dst)
/-- No two operations have one slot. -/
def okSlots (ops : Array Oper) (sz : Nat) : Bool :=
  (List.range ops.size).all fun i => match slotAt ops i with
    | some d => decide (d < sz) && (List.range ops.size).all fun j => j == i || !(slotAt ops j == some d)
    | none => true
def hasSlot (ops : Array Oper) (d : Nat) : Bool := (List.range ops.size).any fun j => slotAt ops j == some d
theorem slotAt_lt {j : Nat} {d : Tmp} (h : slotAt ops j = some d) : j < ops.size := by
  unfold slotAt at h
  cases ho : ops[j]? with
  | none => rw [ho] at h; cases h
  | some o => exact (Array.getElem?_eq_some_iff.1 ho).1
theorem okSlots_at {sz i : Nat} {d : Tmp} (h : okSlots ops sz = true) (hd : slotAt ops i = some d) : d < sz ∧ ∀ j, j ≠ i → slotAt ops j ≠ some d := by
  have h1 := List.all_eq_true.1 h i (by simpa using slotAt_lt hd)
  rw [hd] at h1
  simp only [Bool.and_eq_true, decide_eq_true_eq] at h1
  refine ⟨h1.1, fun j hj e => ?_⟩
  have h2 := List.all_eq_true.1 h1.2 j (by simpa using slotAt_lt e)
  simp [hj, e] at h2
theorem hasSlot_of {j : Nat} {d : Tmp} (h : slotAt ops j = some d) : hasSlot ops d = true :=
  List.any_eq_true.2 ⟨j, by simpa using slotAt_lt h, by simp [h]⟩
def upd {α : Type} (f : Nat → α) (i : Nat) (v : α) : Nat → α := fun j => if j = i then v else f j
theorem upd_same {α : Type} (f : Nat → α) (i : Nat) (v : α) : upd f i v i = v := by simp [upd]
theorem upd_other {α : Type} (f : Nat → α) {i j : Nat} (v : α) (h : j ≠ i) : upd f i v j = f j := by simp [upd, h]

/-- What an operation sees when its turn comes: the values of those it waits for, and the other slots as they were. -/
structure Sees (ops : Array Oper) (tab : Nat → Option Value) (f : Nat → Value) (a0 a : Act) (o : Oper) : Prop where
  dep : ∀ j d, waitsFor o j = true → slotAt ops j = some d → a.eval (.tmp d) = f j
  tab : ∀ j d u, waitsFor o j = true → slotAt ops j = some d → tab j = some u → a.eval (.tmp d) = u
  old : ∀ d, hasSlot ops d = false → a.eval (.tmp d) = a0.eval (.tmp d)

theorem eval_at {a : Act} {d : Tmp} {v : Value} (h : a.tmps[d]? = some v) : a.eval (.tmp d) = v := by
  unfold Act.eval
  simp [Array.getD_eq_getD_getElem?, h]

/-- The frame behind all operations. -/
def putAll (ops : Array Oper) (f : Nat → Value) : List Nat → Act → Act
  | [], a => a
  | i :: l, a => putAll ops f l (a.put (slotAt ops i) (f i))
theorem putAll_defers (f : Nat → Value) : ∀ (l : List Nat) (a : Act), (putAll ops f l a).defers = a.defers
  | [], a => rfl
  | i :: l, a => by
    show (putAll ops f l (a.put (slotAt ops i) (f i))).defers = _
    rw [putAll_defers f l]
    cases slotAt ops i <;> rfl
theorem put_get (a : Act) (s : Option Tmp) (v : Value) (d : Tmp) : (a.put s v).tmps[d]? = if s = some d ∧ d < a.tmps.size then some v else a.tmps[d]? := by
  cases s with
  | none => simp [Act.put]
  | some t =>
    show (a.tmps.setIfInBounds t v)[d]? = _
    by_cases h : t = d
    · subst h
      by_cases hs : t < a.tmps.size
      · simp [hs]
      · simp [hs]
    · rw [Array.getElem?_setIfInBounds_ne h]
      simp [h]
theorem put_size (a : Act) (s : Option Tmp) (v : Value) : (a.put s v).tmps.size = a.tmps.size := by
  cases s <;> simp [Act.put]
theorem putAll_size (f : Nat → Value) : ∀ (l : List Nat) (a : Act), (putAll ops f l a).tmps.size = a.tmps.size
  | [], a => rfl
  | i :: l, a => by
    show (putAll ops f l (a.put (slotAt ops i) (f i))).tmps.size = _
    rw [putAll_size f l, put_size]
theorem putAll_get (f : Nat → Value) (hs : ∀ i j d, slotAt ops i = some d → slotAt ops j = some d → i = j) : ∀ (l : List Nat) (a : Act) (d : Tmp), d < a.tmps.size → (putAll ops f l a).tmps[d]? = match l.find? (fun j => slotAt ops j == some d) with | some j => some (f j) | none => a.tmps[d]?
  | [], a, d, _ => rfl
  | i :: l, a, d, hd => by
    show (putAll ops f l (a.put (slotAt ops i) (f i))).tmps[d]? = _
    rw [putAll_get f hs l _ d (by rw [put_size]; exact hd)]
    by_cases hi : slotAt ops i = some d
    · have e : (i :: l).find? (fun j => slotAt ops j == some d) = some i := by simp [List.find?, hi]
      rw [e]
      cases h : l.find? (fun j => slotAt ops j == some d) with
      | none => simp [put_get, hi, hd]
      | some j =>
        have hj := List.find?_some h
        have : slotAt ops j = some d := by simpa using hj
        rw [hs i j d hi this]
    · have e : (i :: l).find? (fun j => slotAt ops j == some d) = l.find? (fun j => slotAt ops j == some d) := by
        have hb : (slotAt ops i == some d) = false := by simpa using hi
        simp [List.find?, hb]
      rw [e]
      cases h : l.find? (fun j => slotAt ops j == some d) with
      | none => simp [put_get, hi]
      | some j => rfl

/-- What is done waited for nothing that isn't. -/
def Shut (ops : Array Oper) (d : Nat → Bool) : Prop := ∀ i o j, ops[i]? = some o → waitsFor o j = true → d i = true → d j = true
structure StageI (ops : Array Oper) (tab : Nat → Option Value) (C : (Nat → Bool) → (Nat → Value) → World → Prop) (a0 : Act) (f : Nat → Value) (l : List Bool) (a : Act) (w : World) : Prop where
  world : C (fun i => l.getD i false) f w
  shut : Shut ops (fun i => l.getD i false)
  defers : a.defers = a0.defers
  size : a.tmps.size = a0.tmps.size
  done : ∀ j d, slotAt ops j = some d → l.getD j false = true → a.tmps[d]? = some (f j)
  told : ∀ j u, tab j = some u → l.getD j false = true → f j = u
  old : ∀ d, hasSlot ops d = false → a.tmps[d]? = a0.tmps[d]?

theorem region_stage {id : Nat} {a0 : Act} {w0 : World} (hm : P.follows .mixedOrders = true) (hg : ops.all (fun o => o.guard.isNone) = true) (ha : ahead ops = true) (hs : okSlots ops a0.tmps.size = true)
    (tab : Nat → Option Value) (C : (Nat → Bool) → (Nat → Value) → World → Prop)
    (h0 : ∀ f, C (fun _ => false) f w0.drew)
    (keep : ∀ i v d f w, tab i = some v → C d f w → C (upd d i true) (upd f i v) w)
    (quiet : ∀ i o v d f a w, ops[i]? = some o → tab i = some v → d i = false → Shut ops d → C d f w → Sees ops tab f a0 a o → o.wp P a w (fun a' w' => a' = a.put o.dst v ∧ C d f w') Q)
    (turn : ∀ i o d f a w, ops[i]? = some o → tab i = none → d i = false → Shut ops d → (∀ j, waitsFor o j = true → d j = true) → C d f w → Sees ops tab f a0 a o → o.wp P a w (fun a' w' => ∃ v, a' = a.put o.dst v ∧ C (upd d i true) (upd f i v) w') Q)
    (fin : ∀ f w, C (fun i => decide (i < ops.size)) f w → (∀ j u, j < ops.size → tab j = some u → f j = u) → Q .normal (putAll ops f (List.range ops.size) a0) w) :
    (Code.region id ops true).wp P Q a0 w0 := by
  have huniq : ∀ i j d, slotAt ops i = some d → slotAt ops j = some d → i = j := by
    intro i j d hi hj
    by_cases e : i = j
    · exact e
    · exact absurd hj ((okSlots_at hs hi).2 j (fun h => e h.symm))
  refine region_inv hm hg ha (fun l a w => ∃ f, l.length = ops.size ∧ StageI ops tab C a0 f l a w) ?_ ?_ ?_
  · refine ⟨fun _ => undef, by simp, ?_, fun i o j _ _ h => ?_, rfl, rfl, fun j d _ h => ?_, fun j u _ h => ?_, fun _ _ => rfl⟩
    · have e : (fun i => (List.replicate ops.size false).getD i false) = fun _ => false := by
        funext i
        simp only [List.getD, List.getElem?_replicate]
        split <;> rfl
      rw [e]; exact h0 _
    · exfalso
      simp only [List.getD, List.getElem?_replicate] at h
      split at h <;> cases h
    · exfalso
      simp only [List.getD, List.getElem?_replicate] at h
      split at h <;> cases h
    · exfalso
      simp only [List.getD, List.getElem?_replicate] at h
      split at h <;> cases h
  · rintro l a w i o ⟨f, hl, hj⟩ hf hd hi ho
    have hsee : Sees ops tab f a0 a o := ⟨fun j d hw hsl => eval_at (hj.done j d hsl (dep_done hd j hw)), fun j d u hw hsl ht => by rw [← hj.told j u ht (dep_done hd j hw)]; exact eval_at (hj.done j d hsl (dep_done hd j hw)), fun d hn => by
      unfold Act.eval
      simp [Array.getD_eq_getD_getElem?, hj.old d hn]⟩
    have hil : i < l.length := by omega
    have hfd : l.getD i false = false := by
      simp only [List.getD, List.getElem?_eq_getElem hil] at hf ⊢
      simpa using hf
    have hod : slotAt ops i = o.dst := by unfold slotAt; rw [ho]; rfl
    have hup : (fun k => (l.set i true).getD k false) = upd (fun k => l.getD k false) i true := by
      funext k
      unfold upd
      by_cases hk : k = i
      · subst hk; simp [List.getD, hil]
      · rw [if_neg hk]; simp only [List.getD]; rw [List.getElem?_set_ne (fun e => hk e.symm)]
    have build : ∀ v w', C (upd (fun k => l.getD k false) i true) (upd f i v) w' → (∀ u, tab i = some u → v = u) → ∃ f', (l.set i true).length = ops.size ∧ StageI ops tab C a0 f' (l.set i true) (a.put o.dst v) w' := by
      intro v w' hC hv
      refine ⟨upd f i v, by simpa using hl, by rw [hup]; exact hC, ?_, ?_, by rw [put_size]; exact hj.size, ?_, ?_, ?_⟩
      · rw [hup]
        intro k x j hk hwt hdn
        by_cases hji : j = i
        · rw [hji]; exact upd_same _ _ _
        · rw [upd_other _ _ hji]
          by_cases hki : k = i
          · subst hki
            obtain rfl := Option.some.inj (ho.symm.trans hk)
            exact dep_done hd j hwt
          · rw [upd_other _ _ hki] at hdn
            exact hj.shut k x j hk hwt hdn
      · rw [← hj.defers]; cases o.dst <;> rfl
      · intro j d hsl hdn
        rw [put_get]
        by_cases hji : j = i
        · subst hji
          have hdd : o.dst = some d := by rw [← hod]; exact hsl
          rw [if_pos ⟨hdd, by rw [hj.size]; exact (okSlots_at hs hsl).1⟩, upd_same]
        · have hne : ¬ (o.dst = some d ∧ d < a.tmps.size) := fun h => hji (huniq j i d hsl (by rw [hod]; exact h.1))
          rw [if_neg hne, upd_other f v hji]
          refine hj.done j d hsl ?_
          simp only [List.getD] at hdn ⊢
          rwa [List.getElem?_set_ne (fun e => hji e.symm)] at hdn
      · intro j u ht hdn
        by_cases hji : j = i
        · subst hji; rw [upd_same]; exact hv u ht
        · rw [upd_other f v hji]
          refine hj.told j u ht ?_
          simp only [List.getD] at hdn ⊢
          rwa [List.getElem?_set_ne (fun e => hji e.symm)] at hdn
      · intro d hn
        rw [put_get]
        have hne : ¬ (o.dst = some d ∧ d < a.tmps.size) := fun h => by
          have h2 := hasSlot_of (ops := ops) (j := i) (d := d) (by rw [hod]; exact h.1)
          rw [hn] at h2; cases h2
        rw [if_neg hne]
        exact hj.old d hn
    cases ht : tab i with
    | some v =>
      refine Oper.wp_mono ?_ (quiet i o v _ f a w ho ht hfd hj.shut hj.world hsee)
      rintro a' w' ⟨rfl, hCw⟩
      exact build v w' (keep i v _ f w' ht hCw) (fun u hu => by rw [ht] at hu; exact Option.some.inj hu)
    | none =>
      refine Oper.wp_mono ?_ (turn i o _ f a w ho ht hfd hj.shut (fun j hw => dep_done hd j hw) hj.world hsee)
      rintro a' w' ⟨v, rfl, hC⟩
      exact build v w' hC (fun u hu => by rw [ht] at hu; cases hu)
  · rintro a w ⟨f, hl, hj⟩
    have hall : ∀ j, j < ops.size → (List.replicate ops.size true).getD j false = true := fun j h => by simp [List.getD, h]
    have e : (fun i => (List.replicate ops.size true).getD i false) = fun i => decide (i < ops.size) := by
      funext i
      by_cases h : i < ops.size
      · simp [List.getD, h]
      · simp [List.getD, h]
    have hC := hj.world
    rw [e] at hC
    have h := fin f w hC (fun j u h1 h2 => hj.told j u h2 (hall j h1))
    have ea : putAll ops f (List.range ops.size) a0 = a := by
      have e1 : (putAll ops f (List.range ops.size) a0).tmps = a.tmps := by
        apply Array.ext_getElem?
        intro d
        by_cases hd : d < a0.tmps.size
        · rw [putAll_get f huniq _ _ d hd]
          cases hfd : (List.range ops.size).find? (fun j => slotAt ops j == some d) with
          | some j =>
            have h1 : slotAt ops j = some d := by simpa using List.find?_some hfd
            exact (hj.done j d h1 (hall j (slotAt_lt h1))).symm
          | none =>
            refine (hj.old d ?_).symm
            cases hh : hasSlot ops d with
            | false => rfl
            | true =>
              obtain ⟨j, h1, h2⟩ := List.any_eq_true.1 hh
              have := List.find?_eq_none.1 hfd j h1
              exact absurd h2 this
        · rw [Array.getElem?_eq_none (by rw [putAll_size]; omega), Array.getElem?_eq_none (by rw [hj.size]; omega)]
      have e2 : (putAll ops f (List.range ops.size) a0).defers = a.defers := by rw [putAll_defers, hj.defers]
      cases hp : putAll ops f (List.range ops.size) a0
      rw [hp] at e1 e2
      cases a
      simp only at e1 e2
      rw [e1, e2]
    rw [← ea]
    exact h

/-- A call of a function whose contract leaves the class. -/
theorem quiet_call {C : World → Prop} {ρ : Operand → Value} {o : Oper} {w : World} {v : Value} (f : FuncId) (A : List Operand) (T : Array TypeId) (args : Array Value) (ho : o.op = .call { callee := .value (.func f), args := A.toArray, argTypes := T }) (hρ : ρ (.func f) = .func (.func f) #[] #[]) (hA : (A.map ρ).toArray = args) (hf : (callFunc f args).run P w = .ok (.enter f args) w)
    (h : Calls P f args w fun e w'' => e = .returned v ∧ C w'') : Oper.quietUpon P C w v ((execOp ρ o).run P w) := by
  have e : (execOp ρ o).run P w = .ok (.enter f args) w := by
    subst hA
    simp [execOp, ho, go_sem, hρ, hf]
  rw [e]
  exact ⟨rfl, h⟩
/-- A row of one made, as one operation. -/
theorem op_row1 {w w' : World} {o : Oper} {a : Act} {K : Act → World → Prop} (t : TypeId) (x : Operand) (u v : Value) (ho : o.op = .buildSlice t 1 #[(0, x)]) (hx : a.eval x = u) (hr : (Instr.buildSlice t 1 #[(0, u)]).run P w = .ok v w') (h : K (a.put o.dst v) w') : o.wp P a w K Q := by
  refine op_value (w' := w') v ?_ h
  unfold execOp
  simp only [ho, List.map_toArray, List.map_cons, List.map_nil, hx, Sem.run_bind, hr, Result.andThen_ok, Sem.run_pure]
/-- The frame behind all operations, by their slots. -/
def putL : List (Option Tmp) → (Nat → Value) → Nat → Act → Act
  | [], _, _, a => a
  | t :: l, f, i, a => putL l f (i + 1) (a.put t (f i))
theorem putAll_putL (f : Nat → Value) : ∀ (n k : Nat) (a : Act), putAll ops f (List.range' k n) a = putL ((List.range' k n).map (slotAt ops)) f k a
  | 0, k, a => rfl
  | n + 1, k, a => by
    rw [List.range'_succ, List.map_cons]
    exact putAll_putL f n (k + 1) (a.put (slotAt ops k) (f k))
/-- Each operation that has a value looks at slots of such ones that it waits for, or at slots of none. -/
def readsOk (ops : Array Oper) (vals : List (Option Value)) : Bool :=
  (List.range ops.size).all fun i => !(vals.getD i none).isSome || ((ops[i]?).map fun o => o.op.operands.all fun x => match x with
    | .tmp d => !hasSlot ops d || (List.range ops.size).any fun j => waitsFor o j && (slotAt ops j == some d) && (vals.getD j none).isSome
    | _ => true).getD true

/-- The same, those that only read by one frame that has all their values. -/
theorem region_frame {id : Nat} {a0 : Act} {w0 : World} (slots : List (Option Tmp)) (hslots : (List.range' 0 ops.size).map (slotAt ops) = slots) (vals : List (Option Value)) (C : (Nat → Bool) → (Nat → Value) → World → Prop)
    (hm : P.follows .mixedOrders = true) (hg : ops.all (fun o => o.guard.isNone) = true) (ha : ahead ops = true) (hs : okSlots ops a0.tmps.size = true) (hr : readsOk ops vals = true) (hsel : Region.noSelect ops = true)
    (h0 : ∀ f, C (fun _ => false) f w0.drew)
    (keep : ∀ i v d f w, vals.getD i none = some v → C d f w → C (upd d i true) (upd f i v) w)
    (quiet : ∀ ρ : Operand → Value, (∀ c, ρ (.const c) = c) ∧ (∀ h, ρ (.func h) = .func (.func h) #[] #[]) → (∀ j d u, slotAt ops j = some d → vals.getD j none = some u → ρ (.tmp d) = u) → (∀ d, hasSlot ops d = false → ρ (.tmp d) = a0.eval (.tmp d)) →
      ∀ i o v d f w, ops[i]? = some o → vals.getD i none = some v → d i = false → Shut ops d → C d f w → Oper.quietUpon P (C d f) w v ((execOp ρ o).run P w))
    (turn : ∀ i o d f a w, ops[i]? = some o → vals.getD i none = none → d i = false → Shut ops d → (∀ j, waitsFor o j = true → d j = true) → C d f w → Sees ops (fun i => vals.getD i none) f a0 a o → o.wp P a w (fun a' w' => ∃ v, a' = a.put o.dst v ∧ C (upd d i true) (upd f i v) w') Q)
    (fin : ∀ f w, C (fun i => decide (i < ops.size)) f w → (∀ j u, j < ops.size → vals.getD j none = some u → f j = u) → Q .normal (putL slots f 0 a0) w) :
    (Code.region id ops true).wp P Q a0 w0 := by
  have huniq : ∀ i j d, slotAt ops i = some d → slotAt ops j = some d → i = j := by
    intro i j d hi hj
    by_cases e : i = j
    · exact e
    · exact absurd hj ((okSlots_at hs hi).2 j (fun h => e h.symm))
  obtain ⟨az, haz⟩ : ∃ az, az = putAll ops (fun i => (vals.getD i none).getD undef) (List.range ops.size) a0 := ⟨_, rfl⟩
  have z1 : ∀ j d u, slotAt ops j = some d → vals.getD j none = some u → az.eval (.tmp d) = u := by
    intro j d u hsl hv
    refine eval_at ?_
    rw [haz, putAll_get _ huniq _ _ d (okSlots_at hs hsl).1]
    cases h : (List.range ops.size).find? (fun j => slotAt ops j == some d) with
    | none =>
      have := List.find?_eq_none.1 h j (by simpa using slotAt_lt hsl)
      exact absurd (by simp [hsl]) this
    | some k =>
      have h1 : slotAt ops k = some d := by simpa using List.find?_some h
      obtain rfl := huniq k j d h1 hsl
      show some ((vals.getD k none).getD undef) = some u
      rw [hv]; rfl
  have z2 : ∀ d, hasSlot ops d = false → az.eval (.tmp d) = a0.eval (.tmp d) := by
    intro d hn
    have e : az.tmps[d]? = a0.tmps[d]? := by
      by_cases hd : d < a0.tmps.size
      · rw [haz, putAll_get _ huniq _ _ d hd]
        cases h : (List.range ops.size).find? (fun j => slotAt ops j == some d) with
        | none => rfl
        | some k =>
          have h1 : slotAt ops k = some d := by simpa using List.find?_some h
          rw [hasSlot_of h1] at hn; cases hn
      · rw [Array.getElem?_eq_none (by rw [haz, putAll_size]; omega), Array.getElem?_eq_none (by omega)]
    unfold Act.eval
    simp [Array.getD_eq_getD_getElem?, e]
  refine region_stage hm hg ha hs (fun i => vals.getD i none) C h0 keep ?_ turn (fun f w h1 h2 => by
    rw [List.range_eq_range', putAll_putL, hslots]
    exact fin f w h1 h2)
  intro i o v d f a w ho ht hd hsh hC hsee
  have hcong : execOp a.eval o = execOp az.eval o := by
    refine execOp_congr o (fun cs b => Region.noSelect_spec hsel i o cs b ho) (fun x hx => ?_)
    have h1 := List.all_eq_true.1 hr i (by simpa using (Array.getElem?_eq_some_iff.1 ho).1)
    rw [ht, ho] at h1
    simp only [Option.isSome_some, Bool.not_true, Bool.false_or, Option.map_some, Option.getD_some, Array.all_eq_true'] at h1
    have h2 := h1 x hx
    cases x with
    | tmp t =>
      simp only [Bool.or_eq_true, Bool.not_eq_true'] at h2
      rcases h2 with h2 | h2
      · rw [z2 t h2]; exact hsee.old t h2
      · obtain ⟨j, _, hj⟩ := List.any_eq_true.1 h2
        simp only [Bool.and_eq_true, beq_iff_eq] at hj
        obtain ⟨⟨hj1, hj2⟩, hj3⟩ := hj
        obtain ⟨u, hu⟩ := Option.isSome_iff_exists.1 hj3
        rw [z1 j t u hj2 hu]
        exact hsee.tab j t u hj1 hj2 hu
    | const c => rfl
    | global g => rfl
    | func g => rfl
  refine Oper.wp_of_quiet (C := C d f) (K := fun a' => a' = a.put o.dst v) hC (fun a' w' hw hk => ⟨hk, hw⟩) ⟨v, fun w hw => ?_, rfl⟩
  have h := quiet az.eval ⟨fun c => rfl, fun h => rfl⟩ z1 z2 i o v d f w ho ht hd hsh hw
  unfold Oper.quietAt
  rw [hcong]
  exact h
end
end Go.Proofs.Ytmlklmhochihbaa
