/- Halving keeps the order of heats. -/
import Derived.Test.YtmepjgdopfgdhaaHtColds
namespace Go.Proofs.Ytmepjgdopfgdhaa
open Go.RowKit

/-- A heat: some number, and not -0. -/
def Rgt (x : Nat) : Prop := nn x = false ∧ (mg x = 0 → x = 0)
theorem radd_rgt (x y : Nat) : Rgt (radd x y) := by
  unfold radd
  split
  · exact rt_ok _
  · exact ⟨rfl, fun _ => rfl⟩
theorem rt_rgt {x : Nat} (h : Rgt x) : rt x = x := by
  unfold rt
  by_cases h0 : mg x = 0
  · have := h.2 h0
    subst this
    rfl
  · rw [if_neg]
    simp [h.1, h0]
theorem mg_fd' (x m : Nat) : mg (fd x m) = if 9218868437227405312 ≤ mg x then mg x else hfi m (mg x) := by
  by_cases hb : 9218868437227405312 ≤ mg x
  · rw [if_pos hb, fd_big x m hb]
  · rw [if_neg hb, mg_fd x m (by omega)]
theorem ng_fd' (x m : Nat) : ng (fd x m) = ng x := by
  by_cases hb : 9218868437227405312 ≤ mg x
  · rw [fd_big x m hb]
  · have h1 := sg_fd x m (by omega)
    unfold sg at h1
    cases h2 : ng (fd x m) <;> cases h3 : ng x <;> simp [h2, h3] at h1 <;> rfl
theorem nn_fd' (x m : Nat) (h : nn x = false) : nn (fd x m) = false := by
  rw [nn_false] at h ⊢
  rw [mg_fd' x m]
  split
  · exact h
  · have := hfi_le m (mg x); omega
theorem rk_rt (y : Nat) (h : nn y = false) : rk (rt y) = if mg y = 0 then 0 else if ng y then -(mg y : Int) - 1 else (mg y : Int) := by
  unfold rt
  by_cases h0 : mg y = 0
  · rw [if_pos (by simp [h0]), if_pos h0]; rfl
  · rw [if_neg (by simp [h, h0]), if_neg h0]
    unfold rk
    rw [if_neg (by simp [h])]
theorem fade_mono {a b : Nat} (ha : Rgt a) (hb : Rgt b) (m : Nat) (h : rk a ≤ rk b) : rk (rt (fd a m)) ≤ rk (rt (fd b m)) := by
  have r1 := rk_rt (fd a m) (nn_fd' a m ha.1)
  have r2 := rk_rt (fd b m) (nn_fd' b m hb.1)
  rw [ng_fd' a m, mg_fd' a m] at r1
  rw [ng_fd' b m, mg_fd' b m] at r2
  obtain ⟨G, hG⟩ : ∃ G : Nat → Nat, ∀ k, G k = if 9218868437227405312 ≤ k then k else hfi m k := ⟨_, fun _ => rfl⟩
  rw [← hG] at r1 r2
  have hmono : ∀ {i j : Nat}, i ≤ j → G i ≤ G j := fun {i j} hij => by
    rw [hG, hG]
    by_cases h1 : 9218868437227405312 ≤ i
    · rw [if_pos h1, if_pos (by omega)]; exact hij
    · rw [if_neg h1]
      have := hfi_le m i
      split
      · omega
      · exact hfi_mono m hij
  have ra : rk a = if ng a then -(mg a : Int) - 1 else (mg a : Int) := by unfold rk; rw [if_neg (by simp [ha.1])]
  have rb : rk b = if ng b then -(mg b : Int) - 1 else (mg b : Int) := by unfold rk; rw [if_neg (by simp [hb.1])]
  rw [r1, r2]
  cases na : ng a <;> cases nb : ng b <;> simp only [na, nb, if_true, if_false, Bool.false_eq_true] at ra rb ⊢
  · have := hmono (i := mg a) (j := mg b) (by omega)
    split <;> split <;> omega
  · omega
  · split <;> split <;> omega
  · have := hmono (i := mg b) (j := mg a) (by omega)
    split <;> split <;> omega
theorem fade_was {a b : Nat} (ha : Rgt a) (hb : Rgt b) (m : Nat) (h : ls a b = true) : ls (rt (fd b m)) (rt (fd a m)) = false := by
  have h1 : rk a < rk b := by unfold ls at h; simpa using h
  have := fade_mono ha hb m (by omega)
  unfold ls
  simp
  exact this
end Go.Proofs.Ytmepjgdopfgdhaa
