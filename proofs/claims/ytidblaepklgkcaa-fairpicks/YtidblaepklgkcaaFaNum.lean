/- Sums and quotients of numbers that aren't below 0: to the nearest; the order is kept, and what a number is stays. -/
import Derived.Test.YtidblaepklgkcaaRealMath
namespace Go.Proofs.Ytidblaepklgkcaa

/-- So many units of 2^u, to the nearest, between two to the even one. -/
def rhe (V u : Nat) : Nat := V / 2 ^ u + (decide (2 ^ u < 2 * (V % 2 ^ u)) || (2 ^ u == 2 * (V % 2 ^ u) && V / 2 ^ u % 2 == 1)).toNat
/-- The rung nearest to V least units. -/
def rnd (V : Nat) : Nat := if V = 0 then 0 else (V.log2 - 52) * 4503599627370496 + rhe V (V.log2 - 52)
theorem toNat_le (b : Bool) : b.toNat ≤ 1 := by cases b <;> decide
theorem rhe_mono {V W : Nat} (u : Nat) (h : V ≤ W) : rhe V u ≤ rhe W u := by
  unfold rhe
  have hg : 0 < 2 ^ u := Nat.two_pow_pos u
  generalize 2 ^ u = G at *
  have hq : V / G ≤ W / G := Nat.div_le_div_right h
  rcases Nat.lt_or_ge (V / G) (W / G) with h1 | h1
  · have := toNat_le (decide (G < 2 * (V % G)) || (G == 2 * (V % G) && V / G % 2 == 1))
    omega
  · have e : V / G = W / G := by omega
    rw [e]
    have hr : V % G ≤ W % G := by
      have h2 := Nat.div_add_mod V G
      have h3 := Nat.div_add_mod W G
      rw [e] at h2
      omega
    refine Nat.add_le_add_left ?_ _
    cases hb : (decide (G < 2 * (V % G)) || (G == 2 * (V % G) && W / G % 2 == 1)) with
    | false => exact Nat.zero_le _
    | true =>
      have : (decide (G < 2 * (W % G)) || (G == 2 * (W % G) && W / G % 2 == 1)) = true := by
        simp only [Bool.or_eq_true, decide_eq_true_eq, Bool.and_eq_true, beq_iff_eq] at hb ⊢
        omega
      rw [this]
      exact Nat.le_refl _
theorem rhe_le {V u : Nat} : rhe V u ≤ V / 2 ^ u + 1 := by
  unfold rhe
  have := toNat_le (decide (2 ^ u < 2 * (V % 2 ^ u)) || (2 ^ u == 2 * (V % 2 ^ u) && V / 2 ^ u % 2 == 1))
  omega
theorem rhe_ge {V u : Nat} : V / 2 ^ u ≤ rhe V u := Nat.le_add_right _ _
theorem rhe_zero (V : Nat) : rhe V 0 = V := by
  unfold rhe
  rw [Nat.pow_zero, Nat.div_one, Nat.mod_one]
  simp
theorem rhe_scale (m d e : Nat) : rhe (m * 2 ^ e) (d + e) = rhe m d := by
  unfold rhe
  have hp : 0 < 2 ^ e := Nat.two_pow_pos e
  rw [Nat.pow_add, Nat.mul_div_mul_right _ _ hp, Nat.mul_mod_mul_right]
  generalize 2 ^ e = P at *
  generalize 2 ^ d = D at *
  have h1 : decide (D * P < 2 * (m % D * P)) = decide (D < 2 * (m % D)) := by
    rw [show 2 * (m % D * P) = 2 * (m % D) * P by rw [Nat.mul_assoc]]
    congr 1
    exact propext ⟨fun h => Nat.lt_of_mul_lt_mul_right h, fun h => Nat.mul_lt_mul_of_pos_right h hp⟩
  have h2 : (D * P == 2 * (m % D * P)) = (D == 2 * (m % D)) := by
    rw [show 2 * (m % D * P) = 2 * (m % D) * P by rw [Nat.mul_assoc], Bool.eq_iff_iff, beq_iff_eq, beq_iff_eq]
    exact ⟨fun h => Nat.eq_of_mul_eq_mul_right hp h, fun h => congrArg (· * P) h⟩
  rw [h1, h2]
theorem log2_le_of {V W : Nat} (h0 : V ≠ 0) (h : V ≤ W) : V.log2 ≤ W.log2 := by
  rw [Nat.le_log2 (by omega)]
  exact Nat.le_trans (Nat.log2_self_le h0) h
theorem rnd_mono {V W : Nat} (h : V ≤ W) : rnd V ≤ rnd W := by
  unfold rnd
  by_cases hV : V = 0
  · rw [if_pos hV]; exact Nat.zero_le _
  · have hW : W ≠ 0 := by omega
    rw [if_neg hV, if_neg hW]
    have hl := log2_le_of hV h
    rcases Nat.lt_or_ge (V.log2 - 52) (W.log2 - 52) with h1 | h1
    · have h2 : rhe V (V.log2 - 52) ≤ 9007199254740992 := by
        refine Nat.le_trans rhe_le (Nat.succ_le_of_lt ?_)
        rw [Nat.div_lt_iff_lt_mul (Nat.two_pow_pos _), show (9007199254740992 : Nat) = 2 ^ 53 from rfl, ← Nat.pow_add]
        exact Nat.lt_of_lt_of_le (Nat.lt_log2_self (n := V)) (Nat.pow_le_pow_right (by decide) (by omega))
      have h3 : 4503599627370496 ≤ rhe W (W.log2 - 52) := by
        refine Nat.le_trans ?_ rhe_ge
        rw [Nat.le_div_iff_mul_le (Nat.two_pow_pos _), show (4503599627370496 : Nat) = 2 ^ 52 from rfl, ← Nat.pow_add]
        exact Nat.le_trans (Nat.pow_le_pow_right (by decide) (by omega)) (Nat.log2_self_le hW)
      generalize rhe V (V.log2 - 52) = a at *
      generalize rhe W (W.log2 - 52) = b at *
      omega
    · have e : V.log2 - 52 = W.log2 - 52 := by omega
      rw [e]
      exact Nat.add_le_add_left (rhe_mono _ h) _
theorem log2_is {n k : Nat} (h1 : 2 ^ k ≤ n) (h2 : n < 2 ^ (k + 1)) : n.log2 = k := by
  have h0 : n ≠ 0 := by have := Nat.two_pow_pos k; omega
  exact (Nat.log2_eq_iff h0).2 ⟨h1, h2⟩
theorem rnd_scaled {m e : Nat} (h1 : 4503599627370496 ≤ m) (h2 : m < 9007199254740992) : rnd (m * 2 ^ e) = e * 4503599627370496 + m := by
  have hp : 0 < 2 ^ e := Nat.two_pow_pos e
  have hl : (m * 2 ^ e).log2 = 52 + e := by
    refine log2_is ?_ ?_
    · rw [Nat.pow_add]; exact Nat.mul_le_mul_right _ h1
    · rw [show 52 + e + 1 = 53 + e by omega, Nat.pow_add]; exact Nat.mul_lt_mul_of_pos_right h2 hp
  unfold rnd
  rw [if_neg (by have := Nat.mul_pos (show 0 < m by omega) hp; omega), hl, show 52 + e - 52 = 0 + e by omega, rhe_scale, rhe_zero, Nat.zero_add]
theorem rnd_small {m : Nat} (h : m < 4503599627370496) : rnd m = m := by
  unfold rnd
  by_cases h0 : m = 0
  · rw [if_pos h0, h0]
  · have hl : m.log2 < 52 := (Nat.log2_lt h0).2 h
    rw [if_neg h0, show m.log2 - 52 = 0 by omega, rhe_zero, Nat.zero_mul, Nat.zero_add]
theorem rnd_vl (r : Nat) : rnd (vl r) = r := by
  unfold vl
  split
  · rename_i h; exact rnd_small h
  · rename_i h
    have hm : r % 4503599627370496 < 4503599627370496 := Nat.mod_lt _ (by decide)
    rw [rnd_scaled (by omega) (by omega)]
    omega
/-- What has 53 digits at most is a number. -/
theorem vl_rep {m k : Nat} (h : m < 9007199254740992) : ∃ r, vl r = m * 2 ^ k := by
  induction k generalizing m with
  | zero =>
    rw [Nat.pow_zero, Nat.mul_one]
    by_cases h1 : m < 4503599627370496
    · exact ⟨m, by unfold vl; rw [if_pos h1]⟩
    · refine ⟨m, ?_⟩
      unfold vl
      rw [if_neg h1, show m / 4503599627370496 - 1 = 0 by omega, Nat.pow_zero]
      omega
  | succ k ih =>
    by_cases h1 : m < 4503599627370496
    · obtain ⟨r, hr⟩ := ih (m := 2 * m) (by omega)
      exact ⟨r, by rw [hr, Nat.pow_succ]; generalize 2 ^ k = P; rw [Nat.mul_comm 2 m, Nat.mul_assoc, Nat.mul_comm 2 P]⟩
    · refine ⟨(k + 1) * 4503599627370496 + m, ?_⟩
      unfold vl
      rw [if_neg (by omega), show ((k + 1) * 4503599627370496 + m) % 4503599627370496 = m - 4503599627370496 by omega, show ((k + 1) * 4503599627370496 + m) / 4503599627370496 - 1 = k + 1 by omega, show 4503599627370496 + (m - 4503599627370496) = m by omega]
theorem cut_eq (neg : Bool) (n d : Nat) (h : d ≤ n.log2 + 2) : Ieee.Toward.even.cut neg n d = rhe n d := by
  unfold Ieee.Toward.cut rhe
  rw [Nat.min_eq_left h, Nat.one_shiftLeft]
theorem nearest_eq (m e : Nat) : Ieee.double.nearest false m (-1074 + (e : Int)) = min (rnd (m * 2 ^ e)) 9218868437227405312 := by
  have hB : Ieee.double.binade = 4503599627370496 := by decide
  have hI : Ieee.double.infRung = 9218868437227405312 := by decide
  have hL : Ieee.double.leastPlace = -1074 := by decide
  have hF : Ieee.double.fractionBits = 52 := rfl
  have hw : ∀ r, Ieee.double.word false r = r := fun r => by unfold Ieee.Format.word; rfl
  unfold Ieee.Format.nearest
  by_cases h0 : m = 0
  · rw [if_pos h0, hw, h0, Nat.zero_mul]; rfl
  · rw [if_neg h0]
    simp only [hB, hI, hL, hF, hw]
    have hp : 0 < 2 ^ e := Nat.two_pow_pos e
    have hV : m * 2 ^ e ≠ 0 := by have := Nat.mul_pos (show 0 < m by omega) hp; omega
    have hlg : (m * 2 ^ e).log2 = m.log2 + e := by
      refine log2_is ?_ ?_
      · rw [Nat.pow_add]; exact Nat.mul_le_mul_right _ (Nat.log2_self_le h0)
      · rw [show m.log2 + e + 1 = m.log2 + 1 + e by omega, Nat.pow_add]; exact Nat.mul_lt_mul_of_pos_right (Nat.lt_log2_self (n := m)) hp
    refine congrArg (fun z => min z 9218868437227405312) ?_
    unfold rnd
    rw [if_neg hV, hlg]
    generalize hk : m.log2 = k at *
    rcases (by omega : k + e < 52 ∨ (52 ≤ k + e ∧ k ≤ 52) ∨ 52 < k) with h1 | ⟨h1, h2⟩ | h1
    · have e1 : max (-1074 + (e : Int) + (k : Int) - ((52 : Nat) : Int)) (-1074) = -1074 := by omega
      rw [e1, show (-1074 + (e : Int) - -1074).toNat = e by omega, show (-1074 - (-1074 + (e : Int))).toNat = 0 by omega, cut_eq _ _ _ (by omega), rhe_zero, show k + e - 52 = 0 by omega, rhe_zero, Nat.shiftLeft_eq]
      simp
    · have e1 : max (-1074 + (e : Int) + (k : Int) - ((52 : Nat) : Int)) (-1074) = -1074 + ((k + e - 52 : Nat) : Int) := by omega
      rw [e1, show (-1074 + (e : Int) - (-1074 + ((k + e - 52 : Nat) : Int))).toNat = 52 - k by omega, show (-1074 + ((k + e - 52 : Nat) : Int) - (-1074 + (e : Int))).toNat = 0 by omega, cut_eq _ _ _ (by omega), rhe_zero, Nat.shiftLeft_eq, show (-1074 + ((k + e - 52 : Nat) : Int) - -1074).toNat = k + e - 52 by omega]
      congr 1
      have e2 : m * 2 ^ e = m * 2 ^ (52 - k) * 2 ^ (k + e - 52) := by rw [Nat.mul_assoc, ← Nat.pow_add, show 52 - k + (k + e - 52) = e by omega]
      rw [e2]
      have := rhe_scale (m * 2 ^ (52 - k)) 0 (k + e - 52)
      rw [Nat.zero_add, rhe_zero] at this
      exact this.symm
    · have e1 : max (-1074 + (e : Int) + (k : Int) - ((52 : Nat) : Int)) (-1074) = -1074 + ((k + e - 52 : Nat) : Int) := by omega
      rw [e1, show (-1074 + (e : Int) - (-1074 + ((k + e - 52 : Nat) : Int))).toNat = 0 by omega, show (-1074 + ((k + e - 52 : Nat) : Int) - (-1074 + (e : Int))).toNat = k - 52 by omega, Nat.shiftLeft_zero, cut_eq _ _ _ (by omega), show (-1074 + ((k + e - 52 : Nat) : Int) - -1074).toNat = k + e - 52 by omega, show k + e - 52 = (k - 52) + e by omega, rhe_scale]
/-- The sum. -/
def fad (a b : Nat) : Nat := if a = 9218868437227405312 ∨ b = 9218868437227405312 then 9218868437227405312 else min (rnd (vl a + vl b)) 9218868437227405312
theorem mg_pos {a : Nat} (h : a ≤ 9218868437227405312) : mg a = a ∧ ng a = false := by
  unfold mg ng
  exact ⟨Nat.mod_eq_of_lt (by omega), decide_eq_false (by omega)⟩
theorem shl_scale (m e c : Nat) (h : c ≤ e) : (m <<< (e - c)) * 2 ^ c = m * 2 ^ e := by
  rw [Nat.shiftLeft_eq, Nat.mul_assoc, ← Nat.pow_add, show e - c + c = e by omega]
theorem add_pos {a b : Nat} (ha : a ≤ 9218868437227405312) (hb : b ≤ 9218868437227405312) : Ieee.double.add a b = some (fad a b) := by
  obtain ⟨ma, na⟩ := mg_pos ha
  obtain ⟨mb, nb⟩ := mg_pos hb
  unfold Ieee.Format.add fad
  by_cases h1 : a = 9218868437227405312
  · have r1 := read_inf a (by omega) (by rw [ma]; exact h1)
    rw [r1, na, if_pos (.inl h1)]
    by_cases h2 : b = 9218868437227405312
    · have r2 := read_inf b (by omega) (by rw [mb]; exact h2)
      rw [r2, nb]; rfl
    · obtain ⟨m, e, r2, -⟩ := read_num b (by omega) (by rw [mb]; omega)
      rw [r2]; rfl
  · obtain ⟨m, e, r1, v1⟩ := read_num a (by omega) (by rw [ma]; omega)
    by_cases h2 : b = 9218868437227405312
    · have r2 := read_inf b (by omega) (by rw [mb]; exact h2)
      rw [r2, r1, nb, if_pos (.inr h2)]; rfl
    · obtain ⟨n, f, r2, v2⟩ := read_num b (by omega) (by rw [mb]; omega)
      rw [r1, r2, na, nb, if_neg (by simp [h1, h2])]
      rw [ma] at v1
      rw [mb] at v2
      unfold Ieee.Datum.sum
      have hmin : min (-1074 + (e : Int)) (-1074 + (f : Int)) = -1074 + ((min e f : Nat) : Int) := by omega
      simp only [hmin]
      rw [show (-1074 + (e : Int) - (-1074 + ((min e f : Nat) : Int))).toNat = e - min e f by omega, show (-1074 + (f : Int) - (-1074 + ((min e f : Nat) : Int))).toNat = f - min e f by omega]
      unfold Ieee.signed
      simp only [Bool.false_eq_true, if_false, Bool.and_false]
      have ht : ((m <<< (e - min e f) : Nat) : Int) + ((n <<< (f - min e f) : Nat) : Int) = ((m <<< (e - min e f) + n <<< (f - min e f) : Nat) : Int) := by push_cast; rfl
      rw [ht]
      generalize hS : m <<< (e - min e f) + n <<< (f - min e f) = S
      have hn : (if ((S : Nat) : Int) = 0 then false else decide (((S : Nat) : Int) < 0)) = false := by
        split
        · rfl
        · exact decide_eq_false (by omega)
      rw [hn, Int.natAbs_natCast]
      show some (Ieee.double.nearest false S _) = _
      rw [nearest_eq]
      congr 3
      rw [← hS, Nat.add_mul, shl_scale _ _ _ (Nat.min_le_left _ _), shl_scale _ _ _ (Nat.min_le_right _ _), v1, v2]
theorem fad_le (a b : Nat) : fad a b ≤ 9218868437227405312 := by unfold fad; split <;> omega
theorem fad_mono {a b c d : Nat} (h1 : a ≤ c) (h2 : b ≤ d) (hc : c ≤ 9218868437227405312) (hd : d ≤ 9218868437227405312) : fad a b ≤ fad c d := by
  by_cases h : c = 9218868437227405312 ∨ d = 9218868437227405312
  · have : fad c d = 9218868437227405312 := by unfold fad; rw [if_pos h]
    rw [this]; exact fad_le a b
  · have h3 : ¬ (a = 9218868437227405312 ∨ b = 9218868437227405312) := by omega
    unfold fad
    rw [if_neg h, if_neg h3]
    have hv : ∀ x y : Nat, x ≤ y → vl x ≤ vl y := fun x y h => by
      rcases Nat.lt_or_ge x y with h4 | h4
      · exact Nat.le_of_lt (vl_mono h4)
      · rw [show x = y by omega]; exact Nat.le_refl _
    have := rnd_mono (Nat.add_le_add (hv _ _ h1) (hv _ _ h2))
    omega
theorem vl_norm (e f : Nat) (h : f < 4503599627370496) : vl ((e + 1) * 4503599627370496 + f) = (4503599627370496 + f) * 2 ^ e := by
  unfold vl
  rw [if_neg (by omega), show ((e + 1) * 4503599627370496 + f) % 4503599627370496 = f by omega, show ((e + 1) * 4503599627370496 + f) / 4503599627370496 - 1 = e by omega]
/-- 1 by a weight. -/
def fdv (x : Nat) : Nat := (Ieee.double.div 4607182418800017408 x).getD 0
theorem vl_le {x y : Nat} (h : x ≤ y) : vl x ≤ vl y := by
  rcases Nat.lt_or_ge x y with h4 | h4
  · exact Nat.le_of_lt (vl_mono h4)
  · rw [show x = y by omega]; exact Nat.le_refl _
theorem div_one {x : Nat} (h1 : 4562146422526312448 ≤ x) (h2 : x ≤ 4652218415073722368) : Ieee.double.div 4607182418800017408 x = some (fdv x) ∧ fdv x ≤ 4652218415073722368 ∧ 1 ≤ fdv x := by
  have hs : Ieee.double.signWeight = 9223372036854775808 := by decide
  have hB : Ieee.double.binade = 4503599627370496 := by decide
  have hI : Ieee.double.infRung = 9218868437227405312 := by decide
  have hL : Ieee.double.leastPlace = -1074 := by decide
  have ho : Ieee.double.read 4607182418800017408 = .number false 4503599627370496 (-52) := by decide +kernel
  obtain ⟨n, hn⟩ : ∃ n, n = 4503599627370496 + x % 4503599627370496 := ⟨_, rfl⟩
  obtain ⟨e, he⟩ : ∃ e, e = x / 4503599627370496 - 1 := ⟨_, rfl⟩
  have hx : Ieee.double.read x = .number false n (-1074 + (e : Int)) := by
    unfold Ieee.Format.read
    simp only [hs, hB, hI, hL]
    rw [show x % 9223372036854775808 = x by omega, show x / 9223372036854775808 % 2 = 0 by omega, if_neg (by omega), if_pos (by omega), hn, he]
    rfl
  have hn1 : 4503599627370496 ≤ n := by omega
  have hn2 : n < 9007199254740992 := by omega
  have he1 : 1012 ≤ e := by omega
  have he2 : e ≤ 1032 := by omega
  have hln : n.log2 = 52 := log2_is hn1 hn2
  have hlm : (4503599627370496 : Nat).log2 = 52 := by decide +kernel
  obtain ⟨Q, hQ⟩ : ∃ Q, Q = 2 * (4503599627370496 <<< 54 / n) + (4503599627370496 <<< 54 % n != 0).toNat := ⟨_, rfl⟩
  have hq : Ieee.double.div 4607182418800017408 x = some (min (rnd (Q * 2 ^ (2041 - e))) 9218868437227405312) := by
    unfold Ieee.Format.div
    rw [ho, hx]
    unfold Ieee.Datum.quotient
    simp only [hln, hlm, show Ieee.double.fractionBits + 2 = 54 from rfl, if_neg (show ¬ n = 0 by omega), Bool.xor_self, show 54 + 52 - 52 = 54 from rfl]
    rw [← hQ]
    show some (Ieee.double.nearest false Q _) = _
    rw [← nearest_eq]
    congr 2
    omega
  have hf : fdv x = min (rnd (Q * 2 ^ (2041 - e))) 9218868437227405312 := by unfold fdv; rw [hq]; rfl
  refine ⟨by rw [hq, hf], ?_, ?_⟩
  · rw [hf]
    have hQ2 : Q ≤ 36028797018963968 := by
      rw [hQ]
      have hd : (4503599627370496 : Nat) <<< 54 = 81129638414606681695789005144064 := by decide +kernel
      rw [hd]
      rcases (by omega : n = 4503599627370496 ∨ 4503599627370497 ≤ n) with h | h
      · rw [h]; decide +kernel
      · have h3 : 81129638414606681695789005144064 / n ≤ 18014398509481983 := by
          refine Nat.le_of_lt_succ ((Nat.div_lt_iff_lt_mul (by omega)).2 ?_)
          omega
        have := toNat_le (81129638414606681695789005144064 % n != 0)
        omega
    have h5 : Q * 2 ^ (2041 - e) ≤ vl 4652218415073722368 := by
      obtain ⟨k, hk⟩ : ∃ k, k = 1029 := ⟨_, rfl⟩
      have h6 := vl_norm (3 + k) 0 (by decide)
      rw [show (3 + k + 1) * 4503599627370496 + 0 = 4652218415073722368 by omega, Nat.add_zero, Nat.pow_add, ← Nat.mul_assoc] at h6
      rw [h6]
      exact Nat.mul_le_mul hQ2 (Nat.pow_le_pow_right (by decide) (by omega))
    have := rnd_mono h5
    rw [rnd_vl] at this
    omega
  · rw [hf]
    have hQ1 : 1 ≤ Q := by
      rw [hQ]
      have hd : (4503599627370496 : Nat) <<< 54 = 81129638414606681695789005144064 := by decide +kernel
      rw [hd]
      have h3 : 1 ≤ 81129638414606681695789005144064 / n := (Nat.le_div_iff_mul_le (by omega)).2 (by omega)
      omega
    have h5 : vl 1 ≤ Q * 2 ^ (2041 - e) := by
      have h6 : vl 1 = 1 := by decide +kernel
      rw [h6]
      exact Nat.mul_pos hQ1 (Nat.two_pow_pos _)
    have := rnd_mono h5
    rw [rnd_vl] at this
    omega
end Go.Proofs.Ytidblaepklgkcaa
