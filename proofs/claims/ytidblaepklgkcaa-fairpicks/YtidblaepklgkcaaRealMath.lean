/- The numbers of binary64 by their bits: ranks, magnitudes, signs, and that the model's order of two such words is that of their signed magnitudes. -/
import Ieee.Arith
namespace Go.Proofs.Ytidblaepklgkcaa

/-- The magnitude: the lowest 63 bits. -/
def mg (b : Nat) : Nat := b % 9223372036854775808
/-- Is the word no number? -/
def nn (b : Nat) : Bool := decide (9218868437227405312 < mg b)
/-- Is the sign bit set? -/
def ng (b : Nat) : Bool := decide (9223372036854775808 ≤ b)
/-- The signed magnitude. -/
def sm (b : Nat) : Int := if ng b then -(mg b : Int) else (mg b : Int)
/-- The rank. -/
def rk (b : Nat) : Int := if nn b then 9223372036854775807 else if ng b then -(mg b : Int) - 1 else (mg b : Int)

/-- The value of a rung, in units of the least number. -/
def vl (r : Nat) : Nat := if r < 4503599627370496 then r else (4503599627370496 + r % 4503599627370496) * 2 ^ (r / 4503599627370496 - 1)

theorem vl_step (r : Nat) : vl r < vl (r + 1) := by
  unfold vl
  by_cases h1 : r + 1 < 4503599627370496
  · rw [if_pos (by omega), if_pos h1]; omega
  · rw [if_neg h1]
    by_cases h2 : r < 4503599627370496
    · have e : r + 1 = 4503599627370496 := by omega
      rw [if_pos h2, e]
      simp; omega
    · rw [if_neg h2]
      have hp : 0 < 2 ^ (r / 4503599627370496 - 1) := Nat.two_pow_pos _
      by_cases h3 : r % 4503599627370496 + 1 < 4503599627370496
      · have e1 : (r + 1) % 4503599627370496 = r % 4503599627370496 + 1 := by omega
        have e2 : (r + 1) / 4503599627370496 = r / 4503599627370496 := by omega
        rw [e1, e2]
        exact Nat.mul_lt_mul_of_pos_right (by omega) hp
      · have e1 : (r + 1) % 4503599627370496 = 0 := by omega
        have e2 : (r + 1) / 4503599627370496 - 1 = (r / 4503599627370496 - 1) + 1 := by omega
        rw [e1, e2, Nat.pow_succ]
        generalize 2 ^ (r / 4503599627370496 - 1) = p at hp ⊢
        have hm : r % 4503599627370496 < 4503599627370496 := Nat.mod_lt _ (by omega)
        have : (4503599627370496 + r % 4503599627370496) * p < (4503599627370496 + 4503599627370496) * p := Nat.mul_lt_mul_of_pos_right (by omega) hp
        omega

theorem vl_mono {a b : Nat} (h : a < b) : vl a < vl b := by
  induction b with
  | zero => omega
  | succ n ih =>
    by_cases e : a = n
    · subst e; exact vl_step a
    · exact Nat.lt_trans (ih (by omega)) (vl_step n)

theorem vl_lt_iff (a b : Nat) : vl a < vl b ↔ a < b := by
  constructor
  · intro h
    by_cases h2 : a < b
    · exact h2
    · by_cases e : a = b
      · subst e; omega
      · have := vl_mono (show b < a by omega); omega
  · exact vl_mono

theorem vl_eq_iff (a b : Nat) : vl a = vl b ↔ a = b := by
  constructor
  · intro h
    have h1 := vl_lt_iff a b
    have h2 := vl_lt_iff b a
    omega
  · intro h; rw [h]

theorem vl_zero : vl 0 = 0 := rfl

theorem cmp_congr {a b c d : Int} (h1 : a < b ↔ c < d) (h2 : a = b ↔ c = d) : compare a b = compare c d := by
  simp only [compare, compareOfLessAndEq]
  by_cases x : a < b
  · rw [if_pos x, if_pos (h1.1 x)]
  · rw [if_neg x, if_neg (fun y => x (h1.2 y))]
    by_cases z : a = b
    · rw [if_pos z, if_pos (h2.1 z)]
    · rw [if_neg z, if_neg (fun y => z (h2.2 y))]

theorem signed_shift (s : Bool) (m e c : Nat) (h : c ≤ e) : Ieee.signed s m (e - c) * (2 ^ c : Nat) = Ieee.signed s (m * 2 ^ e) 0 := by
  have k : m <<< (e - c) * 2 ^ c = m * 2 ^ e := by
    rw [Nat.shiftLeft_eq, Nat.mul_assoc, ← Nat.pow_add]
    congr 2; omega
  unfold Ieee.signed
  cases s
  · simp only [Bool.false_eq_true, if_false, Nat.shiftLeft_zero]
    rw [← k]; push_cast; rfl
  · simp only [if_true, Nat.shiftLeft_zero]
    rw [← k, Int.neg_mul]; push_cast; rfl

theorem cmp_scale (s t : Bool) (m n i j : Nat) :
    compare (Ieee.signed s m (i - min i j)) (Ieee.signed t n (j - min i j)) = compare (Ieee.signed s (m * 2 ^ i) 0) (Ieee.signed t (n * 2 ^ j) 0) := by
  rw [← signed_shift s m i (min i j) (Nat.min_le_left ..), ← signed_shift t n j (min i j) (Nat.min_le_right ..)]
  have hp : (0 : Int) < ((2 ^ (min i j) : Nat) : Int) := by have := Nat.two_pow_pos (min i j); omega
  generalize ((2 ^ (min i j) : Nat) : Int) = P at hp ⊢
  generalize Ieee.signed s m (i - min i j) = A
  generalize Ieee.signed t n (j - min i j) = B
  refine cmp_congr ⟨fun h => Int.mul_lt_mul_of_pos_right h hp, fun h => Int.lt_of_mul_lt_mul_right h (Int.le_of_lt hp)⟩ ⟨fun h => by rw [h], fun h => Int.eq_of_mul_eq_mul_right (by omega) h⟩

/-- What a word below infinity stands for. -/
theorem read_num (b : Nat) (hb : b < 18446744073709551616) (h : mg b < 9218868437227405312) :
    ∃ m e : Nat, Ieee.double.read b = .number (ng b) m (-1074 + (e : Int)) ∧ m * 2 ^ e = vl (mg b) := by
  have hs : Ieee.double.signWeight = 9223372036854775808 := by decide
  have hB : Ieee.double.binade = 4503599627370496 := by decide
  have hI : Ieee.double.infRung = 9218868437227405312 := by decide
  have hL : Ieee.double.leastPlace = -1074 := by decide
  have hn : (b / 9223372036854775808 % 2 == 1) = ng b := by
    unfold ng; rw [Bool.eq_iff_iff]; simp; omega
  unfold mg at h
  unfold Ieee.Format.read
  simp only [hs, hB, hI, hL, hn]
  unfold vl mg
  by_cases h1 : b % 9223372036854775808 < 4503599627370496
  · refine ⟨b % 9223372036854775808, 0, ?_, ?_⟩
    · rw [if_pos h1]; rfl
    · rw [if_pos h1]; simp
  · refine ⟨4503599627370496 + b % 9223372036854775808 % 4503599627370496, b % 9223372036854775808 / 4503599627370496 - 1, ?_, ?_⟩
    · rw [if_neg h1, if_pos h]
    · rw [if_neg h1]

theorem read_inf (b : Nat) (hb : b < 18446744073709551616) (h : mg b = 9218868437227405312) : Ieee.double.read b = .infinity (ng b) := by
  have hs : Ieee.double.signWeight = 9223372036854775808 := by decide
  have hB : Ieee.double.binade = 4503599627370496 := by decide
  have hI : Ieee.double.infRung = 9218868437227405312 := by decide
  have hn : (b / 9223372036854775808 % 2 == 1) = ng b := by
    unfold ng; rw [Bool.eq_iff_iff]; simp; omega
  unfold mg at h
  unfold Ieee.Format.read
  simp only [hs, hB, hI, hn]
  rw [if_neg (by omega), if_neg (by omega), if_pos h]

theorem read_nan (b : Nat) (h : 9218868437227405312 < mg b) : ∃ s f, Ieee.double.read b = .nan s f := by
  have hs : Ieee.double.signWeight = 9223372036854775808 := by decide
  have hB : Ieee.double.binade = 4503599627370496 := by decide
  have hI : Ieee.double.infRung = 9218868437227405312 := by decide
  unfold mg at h
  unfold Ieee.Format.read
  simp only [hs, hB, hI]
  rw [if_neg (by omega), if_neg (by omega), if_neg (by omega)]
  exact ⟨_, _, rfl⟩

theorem mg_lt (b : Nat) : mg b < 9223372036854775808 := Nat.mod_lt _ (by omega)

theorem nn_false (b : Nat) : nn b = false ↔ mg b ≤ 9218868437227405312 := by unfold nn; simp
theorem nn_true (b : Nat) : nn b = true ↔ 9218868437227405312 < mg b := by unfold nn; simp

theorem order_nan_left (a b : Nat) (h : nn a = true) : Ieee.double.order a b = none := by
  obtain ⟨s, f, e⟩ := read_nan a ((nn_true a).1 h)
  unfold Ieee.Format.order; rw [e]; rfl

theorem order_nan_right (a b : Nat) (h : nn b = true) : Ieee.double.order a b = none := by
  obtain ⟨s, f, e⟩ := read_nan b ((nn_true b).1 h)
  unfold Ieee.Format.order; rw [e]
  cases Ieee.double.read a <;> rfl

theorem signed0 (s : Bool) (v : Nat) : Ieee.signed s v 0 = if s then -(v : Int) else (v : Int) := by
  unfold Ieee.signed; simp

theorem order_num (a b : Nat) (ha : a < 18446744073709551616) (hb : b < 18446744073709551616) (na : nn a = false) (nb : nn b = false) :
    Ieee.double.order a b = some (compare (sm a) (sm b)) := by
  rw [nn_false] at na nb
  unfold Ieee.Format.order
  by_cases ia : mg a = 9218868437227405312
  · rw [read_inf a ha ia]
    by_cases ib : mg b = 9218868437227405312
    · rw [read_inf b hb ib]
      unfold sm; rw [ia, ib]
      cases ng a <;> cases ng b <;> decide
    · obtain ⟨m, e, hr, _⟩ := read_num b hb (by omega)
      rw [hr]
      unfold sm; rw [ia]
      have : compare (if ng a = true then -((9218868437227405312 : Nat) : Int) else ((9218868437227405312 : Nat) : Int)) (if ng b = true then -(mg b : Int) else (mg b : Int)) = compare (if ng a = true then (-1 : Int) else 1) 0 := by
        apply cmp_congr <;> (cases ng a <;> cases ng b <;> simp <;> omega)
      simp only [Ieee.Datum.order]
      rw [this]; cases ng a <;> decide
  · obtain ⟨m, e, hr, hv⟩ := read_num a ha (by omega)
    rw [hr]
    by_cases ib : mg b = 9218868437227405312
    · rw [read_inf b hb ib]
      unfold sm; rw [ib]
      have : compare (if ng a = true then -(mg a : Int) else (mg a : Int)) (if ng b = true then -((9218868437227405312 : Nat) : Int) else ((9218868437227405312 : Nat) : Int)) = compare 0 (if ng b = true then (-1 : Int) else 1) := by
        apply cmp_congr <;> (cases ng a <;> cases ng b <;> simp <;> omega)
      simp only [Ieee.Datum.order]
      rw [this]; cases ng b <;> decide
    · obtain ⟨n, f, hr2, hv2⟩ := read_num b hb (by omega)
      rw [hr2]
      simp only [Ieee.Datum.order]
      have e1 : ((-1074 : Int) + e - min (-1074 + (e : Int)) (-1074 + (f : Int))).toNat = e - min e f := by omega
      have e2 : ((-1074 : Int) + f - min (-1074 + (e : Int)) (-1074 + (f : Int))).toNat = f - min e f := by omega
      rw [e1, e2, cmp_scale, hv, hv2, signed0, signed0]
      unfold sm
      have l1 := vl_lt_iff (mg a) (mg b)
      have l2 := vl_lt_iff (mg b) (mg a)
      have l3 := vl_lt_iff 0 (mg a)
      have l4 := vl_lt_iff 0 (mg b)
      rw [vl_zero] at l3 l4
      congr 1
      apply cmp_congr <;> (cases ng a <;> cases ng b <;> simp <;> omega)

/-- '==' of two words, as the model reckons it. -/
theorem ord_eq (a b : Nat) (ha : a < 18446744073709551616) (hb : b < 18446744073709551616) :
    (Ieee.double.order a b == some .eq) = (!nn a && !nn b && decide (sm a = sm b)) := by
  cases na : nn a
  · cases nb : nn b
    · rw [order_num a b ha hb na nb]
      simp only [compare, compareOfLessAndEq]
      by_cases x : sm a < sm b
      · rw [if_pos x]; simp; omega
      · rw [if_neg x]
        by_cases z : sm a = sm b
        · rw [if_pos z]; simp [z]
        · rw [if_neg z]; simp [z]
    · rw [order_nan_right a b nb]; simp
  · rw [order_nan_left a b na]; simp

/-- '<' of two words, as the model reckons it. -/
theorem ord_lt (a b : Nat) (ha : a < 18446744073709551616) (hb : b < 18446744073709551616) :
    (Ieee.double.order a b == some .lt) = (!nn a && !nn b && decide (sm a < sm b)) := by
  cases na : nn a
  · cases nb : nn b
    · rw [order_num a b ha hb na nb]
      simp only [compare, compareOfLessAndEq]
      by_cases x : sm a < sm b
      · rw [if_pos x]; simp [x]
      · rw [if_neg x]
        by_cases z : sm a = sm b
        · rw [if_pos z]; simp [z]
        · rw [if_neg z]; simp [x]
    · rw [order_nan_right a b nb]; simp
  · rw [order_nan_left a b na]; simp

/-- '>' of two words, as the model reckons it. -/
theorem ord_gt (a b : Nat) (ha : a < 18446744073709551616) (hb : b < 18446744073709551616) :
    (Ieee.double.order a b == some .gt) = (!nn a && !nn b && decide (sm b < sm a)) := by
  cases na : nn a
  · cases nb : nn b
    · rw [order_num a b ha hb na nb]
      simp only [compare, compareOfLessAndEq]
      by_cases x : sm a < sm b
      · rw [if_pos x]; simp; omega
      · rw [if_neg x]
        by_cases z : sm a = sm b
        · rw [if_pos z]; simp [z]
        · rw [if_neg z]; simp; omega
    · rw [order_nan_right a b nb]; simp
  · rw [order_nan_left a b na]; simp

end Go.Proofs.Ytidblaepklgkcaa
