/- A state and a waiting block, and the bytes that they hold. -/
import Derived.Test.YthpgjbblbhjndaaDoorShaPut
namespace Go.Proofs.YthpgjbblbhjndaaDoor
open Go.RowKit

theorem sched_congr (m m' : Nat → BitVec 32) (h : ∀ t, t < 16 → m t = m' t) (t : Nat) : sched m t = sched m' t := by
  induction t with
  | zero => rfl
  | succ t ih =>
    simp only [sched, ih, nextw]
    by_cases ht : t < 16
    · simp [ht, h t ht]
    · simp [ht]
theorem rnds_congr (m m' : Nat → BitVec 32) (h : ∀ t, t < 16 → m t = m' t) (v : List (BitVec 32)) (t : Nat) : rnds m v t = rnds m' v t := by
  induction t with
  | zero => rfl
  | succ t ih => simp only [rnds, ih, sched_congr m m' h 64]
theorem comp_congr (m m' : Nat → BitVec 32) (h : ∀ t, t < 16 → m t = m' t) (v : List (BitVec 32)) : comp m v = comp m' v := by
  unfold comp; rw [rnds_congr m m' h v 64]
theorem blkw_congr (z z' : List Nat) (p p' : Nat) (h : ∀ i, i < 64 → z.getD (p + i) 0 = z'.getD (p' + i) 0) (t : Nat) (ht : t < 16) : blkw z p t = blkw z' p' t := by
  unfold blkw
  have h0 := h (4 * t) (by omega)
  have h1 := h (4 * t + 1) (by omega)
  have h2 := h (4 * t + 2) (by omega)
  have h3 := h (4 * t + 3) (by omega)
  simp only [← Nat.add_assoc] at h1 h2 h3
  rw [h0, h1, h2, h3]
theorem getD_app (xs ys : List Nat) (i : Nat) (h : i < xs.length) : (xs ++ ys).getD i 0 = xs.getD i 0 := by
  simp [List.getD, List.getElem?_append_left h]
theorem getD_app2 (xs ys : List Nat) (i : Nat) (h : xs.length ≤ i) : (xs ++ ys).getD i 0 = ys.getD (i - xs.length) 0 := by
  simp [List.getD, List.getElem?_append_right h]
theorem hst_app (xs ys : List Nat) (k : Nat) (h : 64 * k ≤ xs.length) : hst (xs ++ ys) k = hst xs k := by
  induction k with
  | zero => rfl
  | succ k ih =>
    simp only [hst]
    rw [ih (by omega)]
    exact comp_congr _ _ (blkw_congr _ _ _ _ fun i hi => getD_app _ _ _ (by omega)) _

/-- These bytes are held by a state and a waiting block. -/
def Holds (all : List Nat) (l : List (BitVec 32)) (z : List Nat) : Prop :=
  l = hst all (all.length / 64) ∧ ∀ i, i < all.length % 64 → z.getD i 0 = all.getD (64 * (all.length / 64) + i) 0

theorem sput_get (z ys : List Nat) (q n i : Nat) (hz : z.length = 64) (hn : n ≤ ys.length) (hq : q + n ≤ 64) (hi : i < q + n) :
    (z.take q ++ ys.take n ++ z.drop (q + n)).getD i 0 = if i < q then z.getD i 0 else ys.getD (i - q) 0 := by
  have h1 : (z.take q ++ ys.take n).length = q + n := by simp; omega
  have h2 : (z.take q).length = q := by simp; omega
  rw [getD_app _ _ _ (by omega)]
  by_cases h : i < q
  · rw [if_pos h, getD_app _ _ _ (by omega)]; simp [List.getD, h]
  · rw [if_neg h, getD_app2 _ _ _ (by omega), h2]; simp [List.getD, show i - q < n by omega]

theorem Holds.put {all ys z : List Nat} {l : List (BitVec 32)} (h : Holds all l z) (n : Nat) (hz : z.length = 64) (hn : n ≤ ys.length) (hq : all.length % 64 + n ≤ 64) :
    ∀ i, i < all.length % 64 + n → (z.take (all.length % 64) ++ ys.take n ++ z.drop (all.length % 64 + n)).getD i 0 = (all ++ ys.take n).getD (64 * (all.length / 64) + i) 0 := by
  intro i hi
  rw [sput_get z ys _ n i hz hn hq hi]
  by_cases hlt : i < all.length % 64
  · rw [if_pos hlt, h.2 i hlt, getD_app _ _ _ (by omega)]
  · rw [if_neg hlt, getD_app2 _ _ _ (by omega)]
    have e : 64 * (all.length / 64) + i - all.length = i - all.length % 64 := by omega
    rw [e]; simp [List.getD, show i - all.length % 64 < n by omega]

theorem Holds.part {all ys z : List Nat} {l : List (BitVec 32)} (h : Holds all l z) (n : Nat) (hz : z.length = 64) (hn : n ≤ ys.length) (hq : all.length % 64 + n < 64) :
    Holds (all ++ ys.take n) l (z.take (all.length % 64) ++ ys.take n ++ z.drop (all.length % 64 + n)) := by
  have hl : (all ++ ys.take n).length = all.length + n := by simp; omega
  have hd : (all.length + n) / 64 = all.length / 64 := by omega
  have hm : (all.length + n) % 64 = all.length % 64 + n := by omega
  refine ⟨?_, ?_⟩
  · rw [hl, hd, hst_app _ _ _ (by omega)]; exact h.1
  · rw [hl, hd, hm]
    exact h.put n hz hn (by omega)

theorem Holds.full {all ys z : List Nat} {l : List (BitVec 32)} (h : Holds all l z) (n : Nat) (hz : z.length = 64) (hn : n ≤ ys.length) (hq : all.length % 64 + n = 64) :
    Holds (all ++ ys.take n) (comp (blkw (z.take (all.length % 64) ++ ys.take n ++ z.drop (all.length % 64 + n)) 0) l) (z.take (all.length % 64) ++ ys.take n ++ z.drop (all.length % 64 + n)) := by
  have hl : (all ++ ys.take n).length = all.length + n := by simp; omega
  have hd : (all.length + n) / 64 = all.length / 64 + 1 := by omega
  have hm : (all.length + n) % 64 = 0 := by omega
  refine ⟨?_, ?_⟩
  · rw [hl, hd]
    simp only [hst]
    rw [hst_app _ _ _ (by omega), ← h.1]
    refine comp_congr _ _ (blkw_congr _ _ _ _ fun i hi => ?_) _
    rw [Nat.zero_add]
    exact h.put n hz hn (by omega) i (by omega)
  · rw [hl, hm]; intro i hi; omega
theorem Holds.nil (z : List Nat) : Holds [] hws z := ⟨rfl, by intro i hi; simp at hi⟩

/-- A sum in memory. -/
def Sm (w : World) (g : Nat) (all : List Nat) : Prop :=
  ∃ l z, Blk w g 84 (u32s l ++ (u8s z ++ [.int .i64 (all.length : Nat)])) ∧ l.length = 8 ∧ z.length = 64 ∧ (∀ x ∈ z, x < 256) ∧ (all ≠ [] → Holds all l z)
theorem Sm.but {R : Nat → Prop} {w w' : World} {g : Nat} {all : List Nat} (h : Sm w g all) (k : But R w w') (hr : ¬ R g) : Sm w' g all := by
  obtain ⟨l, z, hb, h1, h2, h3, h4⟩ := h
  exact ⟨l, z, hb.but k hr, h1, h2, h3, h4⟩
theorem Sm.lt {w : World} {g : Nat} {all : List Nat} (h : Sm w g all) : g < w.heap.size := by
  obtain ⟨l, z, hb, _⟩ := h
  exact hb.lt
theorem Sm.len {w : World} {g : Nat} {all : List Nat} (h : Sm w g all) : w.cell? ⟨g, 72, none⟩ = some (.int .i64 (all.length : Nat)) := by
  obtain ⟨l, z, hb, h1, h2, _⟩ := h
  rw [hb.cell, List.getElem?_append_right (by simp [h1]), List.getElem?_append_right (by simp [h1, u8s, h2])]
  simp [h1, u8s, h2]
theorem Sm.zero {w : World} {g : Nat} (h : Blk w g 84 zero73) : Sm w g [] :=
  ⟨List.replicate 8 0, List.replicate 64 0, h, by simp, by simp, by simp, fun h => (h rfl).elim⟩
end Go.Proofs.YthpgjbblbhjndaaDoor
