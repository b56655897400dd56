/- Tasks of one weight: passes rise strictly, turn by turn; whose turn it is. -/
import Derived.Test.YteapkajebhkjcaaFaAwake
namespace Go.Proofs.Yteapkajebhkjcaa
open Go.RowKit

theorem vl_gap (r : Nat) : vl (r + 1) ≤ vl r + 1 ∨ ∃ e, vl (r + 1) ≤ vl r + 2 ^ e ∧ 4503599627370496 * 2 ^ e ≤ vl r := by
  by_cases h : r < 4503599627370496
  · left
    unfold vl
    rw [if_pos h]
    by_cases h2 : r + 1 < 4503599627370496
    · rw [if_pos h2]; exact Nat.le_refl _
    · rw [if_neg h2, show (r + 1) % 4503599627370496 = 0 by omega, show (r + 1) / 4503599627370496 - 1 = 0 by omega, Nat.pow_zero]
      omega
  · right
    obtain ⟨e, f, hf, rfl⟩ : ∃ e f, f < 4503599627370496 ∧ r = (e + 1) * 4503599627370496 + f := ⟨r / 4503599627370496 - 1, r % 4503599627370496, Nat.mod_lt _ (by decide), by omega⟩
    refine ⟨e, ?_, ?_⟩
    · rw [vl_norm e f hf]
      by_cases h2 : f + 1 < 4503599627370496
      · rw [Nat.add_assoc, vl_norm e (f + 1) h2]
        have : (4503599627370496 + (f + 1)) * 2 ^ e = (4503599627370496 + f) * 2 ^ e + 2 ^ e := by rw [← Nat.add_assoc, Nat.succ_mul]
        omega
      · rw [show (e + 1) * 4503599627370496 + f + 1 = (e + 1 + 1) * 4503599627370496 + 0 by omega, vl_norm (e + 1) 0 (by decide), Nat.pow_succ]
        generalize 2 ^ e = E
        rw [show f = 4503599627370495 by omega]
        omega
    · rw [vl_norm e f hf]
      exact Nat.mul_le_mul_right _ (by omega)
/-- The pass of one who had so many turns. -/
def pw (d : Nat) : Nat → Nat
  | 0 => 0
  | q + 1 => fad (pw d q) d
theorem vl_inf : ∃ k : Nat, k = 1014 ∧ vl 9218868437227405312 = vl 4652218415073722368 * 2 ^ k := by
  refine ⟨_, rfl, ?_⟩
  obtain ⟨k, hk⟩ : ∃ k, k = 1014 := ⟨_, rfl⟩
  obtain ⟨j, hj⟩ : ∃ j, j = 1032 := ⟨_, rfl⟩
  rw [← hk]
  have h1 := vl_norm (j + k) 0 (by decide)
  have h2 := vl_norm j 0 (by decide)
  rw [show (j + k + 1) * 4503599627370496 + 0 = 9218868437227405312 by omega] at h1
  rw [show (j + 1) * 4503599627370496 + 0 = 4652218415073722368 by omega] at h2
  rw [h1, h2, Nat.pow_add, Nat.mul_assoc]
theorem pw_bound {d : Nat} (h1 : 1 ≤ d) (h2 : d ≤ 4652218415073722368) : ∀ q, q ≤ 256 → pw d q < 9218868437227405312 ∧ vl (pw d q) ≤ 512 * vl d := by
  have hd0 : vl d ≠ 0 := by have := vl_le h1; rw [show vl 1 = 1 from by decide +kernel] at this; omega
  obtain ⟨k, hk⟩ : ∃ k, k = (vl d).log2 := ⟨_, rfl⟩
  have hlo : 2 ^ k ≤ vl d := by rw [hk]; exact Nat.log2_self_le hd0
  have hhi : vl d < 2 ^ (k + 1) := by rw [hk]; exact Nat.lt_log2_self
  have hinf : 512 * vl d < vl 9218868437227405312 := by
    obtain ⟨j, hj, e⟩ := vl_inf
    rw [e]
    have h3 := vl_le h2
    have h4 : 1024 ≤ 2 ^ j := Nat.le_trans (by decide : 1024 ≤ 2 ^ 10) (Nat.pow_le_pow_right (by decide) (by omega))
    have h5 : vl 4652218415073722368 * 1024 ≤ vl 4652218415073722368 * 2 ^ j := Nat.mul_le_mul_left _ h4
    generalize vl 4652218415073722368 * 2 ^ j = Z at *
    generalize vl 4652218415073722368 = Y at *
    omega
  have key : ∀ q, q ≤ 256 → pw d q < 9218868437227405312 ∧ vl (pw d q) ≤ q * 2 ^ (k + 1) := by
    intro q
    induction q with
    | zero => exact fun _ => ⟨show 0 < 9218868437227405312 by decide, by rw [Nat.zero_mul]; exact Nat.le_of_eq rfl⟩
    | succ q ih =>
      intro hq
      obtain ⟨i1, i2⟩ := ih (by omega)
      obtain ⟨r, hr⟩ := vl_rep (m := q + 1) (k := k + 1) (by omega)
      have h3 : pw d (q + 1) = min (rnd (vl (pw d q) + vl d)) 9218868437227405312 := by
        show fad (pw d q) d = _
        unfold fad
        rw [if_neg (by omega)]
      have h4 : rnd (vl (pw d q) + vl d) ≤ r := by
        rw [← rnd_vl r, hr]
        refine rnd_mono ?_
        rw [Nat.succ_mul]
        omega
      have h5 : vl (pw d (q + 1)) ≤ (q + 1) * 2 ^ (k + 1) := by
        rw [← hr, h3]
        exact vl_le (by omega)
      refine ⟨?_, h5⟩
      rw [← vl_lt_iff]
      have h6 : (q + 1) * 2 ^ (k + 1) ≤ 256 * 2 ^ (k + 1) := Nat.mul_le_mul_right _ hq
      rw [Nat.pow_succ] at h5 h6
      omega
  intro q hq
  obtain ⟨i1, i2⟩ := key q hq
  refine ⟨i1, ?_⟩
  have h6 : q * 2 ^ (k + 1) ≤ 256 * 2 ^ (k + 1) := Nat.mul_le_mul_right _ hq
  rw [Nat.pow_succ] at i2 h6
  omega
theorem pw_lt {d : Nat} (h1 : 1 ≤ d) (h2 : d ≤ 4652218415073722368) {q : Nat} (hq : q < 256) : pw d q < pw d (q + 1) := by
  obtain ⟨i1, i2⟩ := pw_bound h1 h2 q (by omega)
  have h3 : pw d (q + 1) = min (rnd (vl (pw d q) + vl d)) 9218868437227405312 := by
    show fad (pw d q) d = _
    unfold fad
    rw [if_neg (by omega)]
  have hd0 : 1 ≤ vl d := by have := vl_le h1; rw [show vl 1 = 1 from by decide +kernel] at this; exact this
  have h4 : vl (pw d q + 1) ≤ vl (pw d q) + vl d := by
    rcases vl_gap (pw d q) with h | ⟨e, h, h5⟩
    · omega
    · generalize 2 ^ e = E at *
      omega
  have h5 := rnd_mono h4
  rw [rnd_vl] at h5
  rw [h3]
  omega
/-- Behind q turns of each, and one more of the first r. -/
def stR (n W q r : Nat) : List Sh := (List.range n).map (fun j => ⟨W, pw (fdv W) (if j < r then q + 1 else q), true⟩)
section
variable {n W q r : Nat}
theorem stR_len : (stR n W q r).length = n := by unfold stR; rw [List.length_map, List.length_range]
theorem stR_at {j : Nat} (h : j < n) : (stR n W q r)[j]? = some ⟨W, pw (fdv W) (if j < r then q + 1 else q), true⟩ := by
  unfold stR
  rw [List.getElem?_map, List.getElem?_range h]
  rfl
theorem stR_wrap : stR n W q n = stR n W (q + 1) 0 := by
  unfold stR
  apply List.map_congr_left
  intro j hj
  rw [List.mem_range] at hj
  rw [if_pos hj, if_neg (by omega)]
theorem stR_aw : awN (stR n W q r) = List.range n := by
  unfold awN awU
  rw [stR_len, List.filter_eq_self]
  intro j hj
  rw [List.mem_range] at hj
  rw [awk_of (stR_at hj)]
theorem stR_pat {j : Nat} (h : j < n) : pat (stR n W q r) j = pw (fdv W) (if j < r then q + 1 else q) := pat_of (stR_at h)
theorem stR_nx (hw1 : 4562146422526312448 ≤ W) (hw2 : W ≤ 4652218415073722368) (hr : r < n) (hq : q < 256) : nxI (stR n W q r) = r := by
  have hn : List.range n = 0 :: List.range' 1 (n - 1) := by
    rw [List.range_eq_range', show n = (n - 1) + 1 by omega, List.range'_succ, Nat.add_sub_cancel]
  unfold nxI
  rw [stR_aw, hn]
  show nx1 (stR n W q r) (List.range' 1 (n - 1)) 0 = r
  obtain ⟨-, d2, d1⟩ := div_one hw1 hw2
  have hlt := pw_lt d1 d2 hq
  have hb1 := (pw_bound d1 d2 q (by omega)).1
  have hb2 := (pw_bound d1 d2 (q + 1) (by omega)).1
  have key : ∀ k, k ≤ n - 1 → nx1 (stR n W q r) (List.range' 1 k) 0 = if r ≤ k then r else 0 := by
    intro k
    induction k with
    | zero =>
      intro _
      show 0 = _
      split <;> omega
    | succ k ih =>
      intro hk
      rw [List.range'_1_concat, nx1_snoc, ih (by omega), stR_pat (by omega)]
      by_cases h1 : r ≤ k
      · rw [if_pos h1, if_neg (show ¬ 1 + k < r by omega), stR_pat hr, if_neg (Nat.lt_irrefl r), ls_irrefl, if_pos (show r ≤ k + 1 by omega)]
        rfl
      · rw [if_neg h1, stR_pat (show 0 < n by omega), if_pos (show 0 < r by omega)]
        by_cases h2 : r = k + 1
        · rw [if_neg (show ¬ 1 + k < r by omega), ls_pos (by omega) (by omega), decide_eq_true hlt, if_pos rfl, if_pos (show r ≤ k + 1 by omega)]
          omega
        · rw [if_pos (show 1 + k < r by omega), ls_irrefl, if_neg (show ¬ r ≤ k + 1 by omega)]
          rfl
  rw [key (n - 1) (Nat.le_refl _), if_pos (by omega)]
theorem stR_next (hw1 : 4562146422526312448 ≤ W) (hw2 : W ≤ 4652218415073722368) (hr : r < n) (hq : q < 256) : nxS (stR n W q r) = stR n W q (r + 1) := by
  unfold nxS
  rw [stR_nx hw1 hw2 hr hq, stR_aw, show (List.range n).isEmpty = false from by cases n with | zero => omega | succ n => rw [List.range_succ_eq_map]; rfl]
  rw [if_neg (by decide)]
  unfold nxT
  rw [stR_at hr, if_neg (Nat.lt_irrefl r)]
  show (stR n W q r).set r ⟨W, fad (pw (fdv W) q) (fdv W), true⟩ = _
  apply List.ext_getElem?
  intro j
  rw [List.getElem?_set, stR_len]
  by_cases h1 : r = j
  · subst h1
    rw [if_pos rfl, if_pos hr, stR_at hr, if_pos (Nat.lt_succ_self r)]
    rfl
  · rw [if_neg h1]
    by_cases h2 : j < n
    · rw [stR_at h2, stR_at h2]
      by_cases h3 : j < r
      · rw [if_pos h3, if_pos (by omega)]
      · rw [if_neg h3, if_neg (by omega)]
    · rw [List.getElem?_eq_none (by rw [stR_len]; omega), List.getElem?_eq_none (by rw [stR_len]; omega)]
/-- The first i have their weight and are awake. -/
def stI (n W i : Nat) : List Sh := (List.range n).map (fun j => if j < i then ⟨W, 0, true⟩ else ⟨4607182418800017408, 0, false⟩)
theorem stI_len {i : Nat} : (stI n W i).length = n := by unfold stI; rw [List.length_map, List.length_range]
theorem stI_at {i j : Nat} (h : j < n) : (stI n W i)[j]? = some (if j < i then ⟨W, 0, true⟩ else ⟨4607182418800017408, 0, false⟩) := by
  unfold stI
  rw [List.getElem?_map, List.getElem?_range h]
  rfl
theorem stI_zero : stI n W 0 = fresh n := by
  apply List.ext_getElem?
  intro j
  unfold fresh
  rw [List.getElem?_replicate]
  by_cases h : j < n
  · rw [stI_at h, if_neg (by omega), if_pos h]
  · rw [List.getElem?_eq_none (by rw [stI_len]; omega), if_neg h]
theorem stI_all : stI n W n = stR n W 0 0 := by
  unfold stI stR
  apply List.map_congr_left
  intro j hj
  rw [List.mem_range] at hj
  rw [if_pos hj]
  rfl
theorem inRt {T : List Sh} {i : Nat} (h : i < T.length) : inR T (i : Int) = true := decide_eq_true (by omega)
theorem stI_step {i x : Nat} (hi : i < n) (hn : n ≤ 8) (hx : rw' x = W) (hw1 : 4562146422526312448 ≤ W) (hw2 : W ≤ 4652218415073722368) : cod (stI n W i) (i : Int) = 0 ∧ cod (wgt (stI n W i) (i : Int) x) (i : Int) = 0 ∧ wak (wgt (stI n W i) (i : Int) x) (i : Int) = stI n W (i + 1) := by
  have h1 : inR (stI n W i) (i : Int) = true := inRt (by rw [stI_len]; exact hi)
  have hat := stI_at (W := W) (i := i) hi
  rw [if_neg (Nat.lt_irrefl i)] at hat
  have hw : wgt (stI n W i) (i : Int) x = (stI n W i).set i ⟨W, 0, false⟩ := by
    unfold wgt
    rw [h1, if_pos rfl, Int.toNat_natCast, pat_of hat, awk_of hat, hx]
  have h2 : inR ((stI n W i).set i ⟨W, 0, false⟩) (i : Int) = true := inRt (by rw [List.length_set, stI_len]; exact hi)
  refine ⟨by unfold cod; rw [h1]; rfl, by rw [hw]; unfold cod; rw [h2]; rfl, ?_⟩
  rw [hw]
  have hat2 : ((stI n W i).set i (⟨W, 0, false⟩ : Sh))[i]? = some ⟨W, 0, false⟩ := by rw [List.getElem?_set_self (by rw [stI_len]; exact hi)]
  unfold wak
  rw [h2, if_pos rfl, Int.toNat_natCast, hat2]
  show wkT _ i ⟨W, 0, false⟩ = _
  have hp0 : ∀ j, pat ((stI n W i).set i (⟨W, 0, false⟩ : Sh)) j = 0 := fun j => by
    unfold pat
    rw [List.getElem?_set]
    by_cases e : i = j
    · rw [if_pos e, if_pos (by rw [stI_len]; omega)]; rfl
    · rw [if_neg e]
      by_cases h3 : j < n
      · rw [stI_at h3]; split <;> rfl
      · rw [List.getElem?_eq_none (by rw [stI_len]; omega)]; rfl
  have hok : Fok ((stI n W i).set i (⟨W, 0, false⟩ : Sh)) := by
    refine ⟨by rw [List.length_set, stI_len]; omega, by rw [List.length_set, stI_len]; exact hn, fun t ht => ?_⟩
    rcases List.mem_or_eq_of_mem_set ht with h3 | h3
    · unfold stI at h3
      obtain ⟨j, -, rfl⟩ := List.mem_map.1 h3
      split
      · exact ⟨⟨hw1, hw2⟩, Nat.zero_le _⟩
      · exact ⟨⟨by decide, by decide⟩, by decide⟩
    · rw [h3]; exact ⟨⟨hw1, hw2⟩, Nat.zero_le _⟩
  have hy : (if (pss ((stI n W i).set i (⟨W, 0, false⟩ : Sh))).isEmpty then 0 else cl 0 (mnf (pss ((stI n W i).set i (⟨W, 0, false⟩ : Sh)))) (fad (mnf (pss ((stI n W i).set i (⟨W, 0, false⟩ : Sh)))) 4652218415073722368)) = 0 := by
    cases he : (pss ((stI n W i).set i (⟨W, 0, false⟩ : Sh))).isEmpty with
    | true => rfl
    | false =>
      obtain ⟨hm, -⟩ := mnf_pos hok he
      have hm0 : mnf (pss ((stI n W i).set i (⟨W, 0, false⟩ : Sh))) = 0 := by
        generalize mnf (pss ((stI n W i).set i (⟨W, 0, false⟩ : Sh))) = z at hm
        obtain ⟨j, -, e⟩ := List.mem_map.1 hm
        rw [hp0] at e
        exact e.symm
      rw [hm0, if_neg (by decide)]
      decide +kernel
  unfold wkT
  rw [hy]
  show ((stI n W i).set i ⟨W, 0, false⟩).set i ⟨W, 0, true⟩ = _
  rw [List.set_set]
  apply List.ext_getElem?
  intro j
  rw [List.getElem?_set, stI_len]
  by_cases h3 : i = j
  · subst h3
    rw [if_pos rfl, if_pos hi, stI_at hi, if_pos (Nat.lt_succ_self i)]
  · rw [if_neg h3]
    by_cases h4 : j < n
    · rw [stI_at h4, stI_at h4]
      by_cases h5 : j < i
      · rw [if_pos h5, if_pos (by omega)]
      · rw [if_neg h5, if_neg (by omega)]
    · rw [List.getElem?_eq_none (by rw [stI_len]; omega), List.getElem?_eq_none (by rw [stI_len]; omega)]
end
end Go.Proofs.Yteapkajebhkjcaa
