/- Sums over blocks: they are additive, and a byte that is turned turns the sum, under each key but 0. -/
import Derived.Test.YtpdkdeebdhdhgaaRefGSum
namespace Go.Proofs.Ytpdkdeebdhdhgaa
open Go.RowKit

/-- Byte j of a list, as an element. -/
def bt (L : List Nat) (j : Nat) : B8 := BitVec.ofNat 8 (L.getD j 0)
theorem blkAt_bt (L : List Nat) (k : Nat) : blkAt L k = mk16 fun i => bt L (16 * k + i) := rfl
def gsG (h : G) (L : List Nat) : Nat → G
  | 0 => 0#128
  | k + 1 => gm (gsG h L k ^^^ toG (blkAt L k)) h
theorem toG_sum (h : List B8) (L : List Nat) : ∀ k, toG (gsumN h L k) = gsG (toG h) L k
  | 0 => toG_zero
  | k + 1 => by
    show toG (gtimes (gadd (gsumN h L k) (blkAt L k)) h) = gm (gsG (toG h) L k ^^^ toG (blkAt L k)) (toG h)
    rw [toG_gtimes, toG_gadd, toG_sum h L k]
theorem mk16_gadd (f g : Nat → B8) : gadd (mk16 f) (mk16 g) = mk16 fun i => f i ^^^ g i := by
  refine at8_ext (gadd_len _ _) (mk16_len _) (fun i hi => ?_)
  unfold gadd
  rw [mk16_at _ i hi, mk16_at _ i hi, mk16_at _ i hi, mk16_at _ i hi]
theorem mk16_congr {f g : Nat → B8} (h : ∀ i, i < 16 → f i = g i) : mk16 f = mk16 g := by
  refine at8_ext (mk16_len _) (mk16_len _) (fun i hi => ?_)
  rw [mk16_at _ i hi, mk16_at _ i hi, h i hi]
theorem mk16_zero : mk16 (fun _ => 0#8) = gzero := by decide
/-- Four lists whose bytes come to 0: so do their sums. -/
theorem four_sums (h : G) {L1 L2 L3 L4 : List Nat} (hz : ∀ j, bt L1 j ^^^ bt L2 j ^^^ bt L3 j ^^^ bt L4 j = 0#8) : ∀ k, gsG h L1 k ^^^ gsG h L2 k ^^^ gsG h L3 k ^^^ gsG h L4 k = 0#128
  | 0 => by simp [gsG]
  | k + 1 => by
    have ih := four_sums h hz k
    have hb : toG (blkAt L1 k) ^^^ toG (blkAt L2 k) ^^^ toG (blkAt L3 k) ^^^ toG (blkAt L4 k) = 0#128 := by
      rw [← toG_gadd, ← toG_gadd, ← toG_gadd, blkAt_bt, blkAt_bt, blkAt_bt, blkAt_bt, mk16_gadd, mk16_gadd, mk16_gadd, mk16_congr (fun i _ => hz (16 * k + i)), mk16_zero, toG_zero]
    show gm (gsG h L1 k ^^^ toG (blkAt L1 k)) h ^^^ gm (gsG h L2 k ^^^ toG (blkAt L2 k)) h ^^^ gm (gsG h L3 k ^^^ toG (blkAt L3 k)) h ^^^ gm (gsG h L4 k ^^^ toG (blkAt L4 k)) h = 0#128
    have e := gm_left h
    rw [← e, ← e, ← e]
    have hs : ∀ a b c d p q r s : G, (a ^^^ p) ^^^ (b ^^^ q) ^^^ (c ^^^ r) ^^^ (d ^^^ s) = (a ^^^ b ^^^ c ^^^ d) ^^^ (p ^^^ q ^^^ r ^^^ s) := by intros; ac_rfl
    rw [hs, ih, hb, BitVec.xor_zero]
    exact zero_gm h
/-- h to so much. -/
def gpw (h : G) : Nat → G
  | 0 => 1#128
  | n + 1 => gm (gpw h n) h
theorem gpw_zero (h : G) (n : Nat) : gpw h n = 0#128 → h = 0#128 := by
  induction n with
  | zero => intro e; exact absurd (show (1#128 : G) = 0#128 from e) (by decide)
  | succ n ih =>
    intro e
    rcases gm_eq_zero.1 e with e | e
    · exact ih e
    · exact e
/-- Two lists that differ in one byte alone. -/
theorem one_sum (h : G) {L M : List Nat} (i : Nat) (hd : ∀ j, j ≠ i → bt L j = bt M j) : ∀ k, gsG h L k ^^^ gsG h M k = if k ≤ i / 16 then 0#128 else gm (toG (blkAt L (i / 16)) ^^^ toG (blkAt M (i / 16))) (gpw h (k - i / 16))
  | 0 => by simp [gsG]
  | k + 1 => by
    have ih := one_sum h i hd k
    have e := gm_left h
    show gm (gsG h L k ^^^ toG (blkAt L k)) h ^^^ gm (gsG h M k ^^^ toG (blkAt M k)) h = _
    rw [← e]
    have hs : ∀ a b p q : G, (a ^^^ p) ^^^ (b ^^^ q) = (a ^^^ b) ^^^ (p ^^^ q) := by intros; ac_rfl
    rw [hs, ih]
    have same : ∀ q, q ≠ i / 16 → toG (blkAt L q) ^^^ toG (blkAt M q) = 0#128 := by
      intro q hq
      have : blkAt L q = blkAt M q := by
        rw [blkAt_bt, blkAt_bt]
        exact mk16_congr (fun t ht => hd _ (by omega))
      rw [this]; exact BitVec.xor_self
    by_cases h1 : k < i / 16
    · rw [if_pos (by omega), if_pos (by omega), same k (by omega), BitVec.xor_zero]
      exact zero_gm h
    · by_cases h2 : k = i / 16
      · rw [if_pos (by omega), if_neg (by omega), h2, show i / 16 + 1 - i / 16 = 1 by omega, BitVec.zero_xor]
        show _ = gm _ (gm 1#128 h)
        rw [one_gm]
      · rw [if_neg (by omega), if_neg (by omega), same k h2, BitVec.xor_zero, show k + 1 - i / 16 = (k - i / 16) + 1 by omega]
        show _ = gm _ (gm (gpw h (k - i / 16)) h)
        rw [gm_assoc]
theorem xor_zero_iff {n : Nat} (a b : BitVec n) : a ^^^ b = 0#n ↔ a = b := by
  constructor
  · intro e
    have : a ^^^ b ^^^ b = b := by rw [e, BitVec.zero_xor]
    rwa [BitVec.xor_assoc, BitVec.xor_self, BitVec.xor_zero] at this
  · rintro rfl; exact BitVec.xor_self
/-- A byte that is turned turns the sum, under each key but 0. -/
theorem turned_sum {h : List B8} (hh : h.length = 16) {L M : List Nat} (i n : Nat) (hi : i < 16 * n) (hd : ∀ j, j ≠ i → bt L j = bt M j) : (gsumN h L n = gsumN h M n) = (bt L i = bt M i ∨ h = gzero) := by
  have e1 : (gsumN h L n = gsumN h M n) = (gsG (toG h) L n ^^^ gsG (toG h) M n = 0#128) := by
    rw [← toG_sum, ← toG_sum]
    refine propext ⟨fun e => by rw [e]; exact BitVec.xor_self, fun e => toG_inj (gsumN_len _ _ _) (gsumN_len _ _ _) ((xor_zero_iff _ _).1 e)⟩
  rw [e1, one_sum (toG h) i hd n, if_neg (by omega)]
  refine propext ⟨fun e => ?_, fun e => ?_⟩
  · rcases gm_eq_zero.1 e with e | e
    · left
      have e2 := toG_inj (blkAt_len _ _) (blkAt_len _ _) ((xor_zero_iff _ _).1 e)
      have e3 : at8 (blkAt L (i / 16)) (i % 16) = at8 (blkAt M (i / 16)) (i % 16) := by rw [e2]
      rw [blkAt_bt, blkAt_bt, mk16_at _ _ (by omega), mk16_at _ _ (by omega)] at e3
      rwa [show 16 * (i / 16) + i % 16 = i by omega] at e3
    · right
      have e2 := gpw_zero _ _ e
      rw [← toG_zero] at e2
      exact toG_inj hh (by simp [gzero]) e2
  · rcases e with e | e
    · have e2 : blkAt L (i / 16) = blkAt M (i / 16) := by
        rw [blkAt_bt, blkAt_bt]
        refine mk16_congr (fun t ht => ?_)
        by_cases h1 : 16 * (i / 16) + t = i
        · rw [h1]; exact e
        · exact hd _ h1
      rw [e2, BitVec.xor_self]; exact zero_gm _
    · rw [e, toG_zero]
      obtain ⟨m, hm⟩ : ∃ m, n - i / 16 = m + 1 := ⟨n - i / 16 - 1, by omega⟩
      rw [hm]
      show gm _ (gm _ 0#128) = _
      rw [gm_zero, gm_zero]
theorem padB_set (xs : List Nat) (i z : Nat) (h : i < xs.length) : padB (xs.set i z) = (padB xs).set i z := by
  unfold padB
  rw [List.length_set, List.set_append_left _ _ h]
theorem bt_set (L : List Nat) (i z j : Nat) (h : i < L.length) : bt (L.set i z) j = if j = i then BitVec.ofNat 8 z else bt L j := by
  unfold bt List.getD
  by_cases e : j = i
  · subst e; rw [if_pos rfl, List.getElem?_set_self h]; rfl
  · rw [if_neg e, List.getElem?_set_ne (fun h => e h.symm)]
end Go.Proofs.Ytpdkdeebdhdhgaa
