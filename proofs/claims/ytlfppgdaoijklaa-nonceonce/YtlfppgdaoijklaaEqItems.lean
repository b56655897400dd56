/- Arrays of bytes held against each other. -/
import Derived.Test.YtlfppgdaoijklaaRefBytes
import Derived.ChangeKeysEq
namespace Go.Proofs.Ytlfppgdaoijklaa
open Go.RowKit

theorem eqItems_any (D E : List Nat) (d : Nat) (w : World) (is : List Nat) (hD : ∀ j ∈ is, j < D.length) (hE : ∀ j ∈ is, j < E.length) :
    (Op.eqItems (d + 1) 5 1 (u8s D).toArray (u8s E).toArray is).run Try.prog w = .ok (is.all fun j => D.getD j 0 == E.getD j 0) w := by
  induction is with
  | nil => simp [Op.eqItems]
  | cons j is ih =>
    have hd := hD j (by simp)
    have he := hE j (by simp)
    have h2 : (isAgg 5).run Try.prog w = .ok false w := by kernel_rfl
    have hp : ∀ (D : List Nat), j < D.length → (part 5 (u8s D).toArray (j * 1)).run Try.prog w = .ok (.int .u8 (D.getD j 0 : Nat)) w := by
      intro D hj
      have hc : (u8s D).toArray[j * 1]? = some (.int .u8 (D.getD j 0 : Nat)) := by
        rw [Nat.mul_one, List.getElem?_toArray]; exact u8s_get D j hj
      unfold part
      rw [Sem.run_bind, h2, Result.andThen_ok, hc]
      rfl
    simp only [Op.eqItems, Sem.run_bind, hp D hd, hp E he, Result.andThen_ok]
    rw [run_equalIn_int w d 5 .u8 .u8 _ _ Try.underlying5]
    have ih2 := ih (fun k hk => hD k (by simp [hk])) (fun k hk => hE k (by simp [hk]))
    by_cases e : D.getD j 0 = E.getD j 0
    · have e2 : ((D.getD j 0 : Int) == (E.getD j 0 : Int)) = true := by rw [e]; simp
      have e3 : (D.getD j 0 == E.getD j 0) = true := by simpa using e
      simp only [Result.andThen_ok, List.all_cons, e2, e3, Bool.true_and]
      simpa using ih2
    · have e2 : ((D.getD j 0 : Int) == (E.getD j 0 : Int)) = false := by
        rw [beq_eq_false_iff_ne]; intro h; exact e (by omega)
      have e3 : (D.getD j 0 == E.getD j 0) = false := by simpa using e
      simp only [Result.andThen_ok, List.all_cons, e2, e3, Bool.false_and]
      simp
theorem equalN {T : TypeId} {n : Nat} (hT : Try.prog.underlying T = some (.array n 5)) (D E : List Nat) (hD : D.length = n) (hE : E.length = n) (w : World) :
    (Op.equalIn 10000 T (.agg (u8s D).toArray) (.agg (u8s E).toArray)).run Try.prog w = .ok (decide (D = E)) w := by
  obtain ⟨i, hi⟩ : ∃ i, Try.prog.info? 5 = some i := by
    obtain ⟨i0, hi, _⟩ := info_parts u8info
    exact ⟨i0, hi⟩
  have hc : Try.prog.cellsOf 5 = 1 := by kernel_rfl
  rw [run_equalIn_array w 9999 _ _ hT hi, hc]
  rw [eqItems_any D E 9998 w _ (by intro j hj; rw [hD]; simpa using hj) (by intro j hj; rw [hE]; simpa using hj)]
  obtain ⟨b, hb⟩ : ∃ b, b = ((List.range n).all fun j => D.getD j 0 == E.getD j 0) := ⟨_, rfl⟩
  rw [← hb]
  have e : b = decide (D = E) := by
    rw [hb, Bool.eq_iff_iff, List.all_eq_true, decide_eq_true_iff]
    constructor
    · intro h
      apply List.ext_getElem (by rw [hD, hE])
      intro k h1 h2
      have h3 := h k (by simp; omega)
      simpa [List.getD, h1, h2] using h3
    · rintro rfl j _
      simp
  rw [e]
end Go.Proofs.Ytlfppgdaoijklaa
